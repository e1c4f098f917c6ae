/-
  Texts that the statements' proofs lean on, one behind the other.
-/
import Derived.Test.YtdkpbphgaenlnaaME
/-
  The walk of rec's Get, what its ways do being told.
-/
namespace Go.Proofs.Ytdkpbphgaenlnaa
open Go.RowKit
set_option linter.unusedSimpArgs false
set_option linter.unusedVariables false

theorem At.made {w0 w1 : World} {o : Obj} {X : Option Addr} {n c : Nat} {bs : List UInt8} (hl : Low w0 w0.heap.size X n c bs) (hg : Grows w0 w1) :
    At ((w1.alloc o).alloc (.cells #[.slice X n c, .bool false] 161)) (w1.heap.size + 1) (bs, false) := by
  have hG := Grows.trans hg (Grows.trans (grows_alloc w1 o) (grows_alloc _ (.cells #[.slice X n c, .bool false] 161)))
  have hw := Whole.made (w1.alloc o) 161 #[.slice X n c, .bool false]
  rw [World.size_alloc] at hw
  exact ⟨X, n, c, hw, (hl.bytes.below hG).wider (Nat.le_trans hg.size (Nat.le_succ _)), hl.cap, hl.bare⟩

theorem results_row_tmp {fn : Func} {p q : Tmp} (h : fn.results = #[.cell p 59, .tmp q]) (tmps : Array Value) (w : World) (g : Nat) (t : TypeId) (u0 u1 u2 u3 u4 u5 u6 : Value) (b : Value)
    (hp : tmps.getD p undef = .pointer (some ⟨g, 0, none⟩)) (hq : tmps.getD q undef = b) (hg : Whole w g t #[u0, u1, u2, u3, u4, u5, u6]) :
    (results fn tmps).run Try.prog w = .ok (.tuple #[.agg #[u0, u1, u2, u3, u4, u5, u6], b]) w := by
  have hp' : tmps[p]?.getD undef = .pointer (some ⟨g, 0, none⟩) := by simpa using hp
  have hq' : tmps[q]?.getD undef = b := by simpa using hq
  have hi : (Try.prog.info? 59).map (·.size) = some 7 := by kernel_rfl
  simp [results, h, hp', hq', asAddr, run_loadVar_row w g t 59 #[u0, u1, u2, u3, u4, u5, u6] (0, 0) _ hg Try.underlying59 rfl hi]

set_option maxRecDepth 100000 in
set_option maxHeartbeats 4000000 in
theorem get_of (ad : Addr) (n c : Nat) (b0 : UInt8) (bs : List UInt8) (w : World) (hs : Sl w (some ad) n c (b0 :: bs)) (hn : n ≤ 140737488351232)
    (f1 f2 f3 : FuncId) (hf : wayOf (b0.toNat : Int) = wayV f1 f2 f3) (hk : decide ((b0.toNat : Int) = 1 ∨ (b0.toNat : Int) = 2 ∨ (b0.toNat : Int) = 3 ∨ (b0.toNat : Int) = 4) = true)
    (hc1 : ∀ a w, (callFunc f1 a).run Try.prog w = .ok (.enter f1 a) w) (hc3 : ∀ a w, (callFunc f3 a).run Try.prog w = .ok (.enter f3 a) w) (p : Rc × Src) (q ok : Bool) (x : Rc)
    (hp : ∀ W g, At W g (bs, false) → Calls Try.prog f3 #[.pointer (some ⟨g, 0, none⟩)] W fun e w' => ∃ LA ln lc BA bn bc, e = .returned (.agg #[.int .i64 0, .string ⟨p.1.key.toArray⟩, .int .i64 p.1.id, .int .i64 p.1.no, .int .i64 p.1.size, .slice LA ln lc, .slice BA bn bc]) ∧ RcOwn w' W.heap.size LA ln lc BA bn bc p.1 ∧ At w' g p.2 ∧ Turns g W w')
    (hq : ∀ W LA ln lc BA bn bc, RcIn W LA ln lc BA bn bc p.1 → Calls Try.prog f1 #[.agg #[.int .i64 (b0.toNat : Int), .string ⟨p.1.key.toArray⟩, .int .i64 p.1.id, .int .i64 p.1.no, .int .i64 p.1.size, .slice LA ln lc, .slice BA bn bc]] W fun e w2 => e = .returned (.bool q) ∧ Below W.heap.size W w2)
    (hok : (decide (p.2.2 = false ∧ p.2.1 = []) && q) = ok) (hx : x = if ok then { p.1 with kind := (b0.toNat : Int) } else Rc.none) :
    Calls Try.prog 72 #[.slice (some ad) n c] w fun e w' => ∃ LA ln lc BA bn bc, e = .returned (.tuple #[.agg #[.int .i64 x.kind, .string ⟨x.key.toArray⟩, .int .i64 x.id, .int .i64 x.no, .int .i64 x.size, .slice LA ln lc, .slice BA bn bc], .bool ok]) ∧ RcOwn w' w.heap.size LA ln lc BA bn bc x ∧ Below w.heap.size w w' := by
  have hlen := hs.len
  simp only [List.length_cons] at hlen
  have hlook : ∀ (w1 : World) (g : Nat), WaysAt w1 g → (Instr.lookup 156 (.map (some g)) (.int .i64 (b0.toNat : Int)) true).run Try.prog w1 = .ok (.tuple #[.agg #[.func (.func f1) #[] #[], .func (.func f2) #[] #[], .func (.func f3) #[] #[]], .bool true]) w1 := fun w1 g h => by
    have := look_is h (b0.toNat : Int)
    rw [hf, hk] at this
    exact this
  have HLK := Lib.hid hlook
  have hst := fun a f m w => store_fn a f m w
  have HP := Lib.hid hp
  have HQ := Lib.hid hq
  have HOK := Lib.hid (And.intro hok hx)
  have hb0 := b0.toNat_lt
  obtain ⟨_, e0, hab, hcell⟩ := hs.bytes.spot (k := 0) (by omega)
  injection e0 with e0
  subst e0
  simp only [List.getD_cons_zero, Addr.add_zero'] at hcell
  have hlow : Low w w.heap.size (if c = 1 then some ad else some (ad.add 1)) (n - 1) (c - 1) bs := by
    have := Low.behind (w := w) (g := w.heap.size) ⟨hs.bytes, hs.cap, hs.bare⟩ (k := 1) (by omega)
    simpa using this
  have hc0 : (1 : Int) ≤ (c : Int) := by have := hs.cap; omega
  have hn0 : (1 : Int) ≤ (n : Int) := by omega
  have HL := Lib.hid hlow
  clear hlook hp hq hok hx hf hk hs hlow
  have eA : ad.add 1 = ⟨ad.block, ad.off + 1, none⟩ := Addr.add_succ' ad 0
  have HOKQ := HOK
  generalize hu : decide (p.2.2 = false ∧ p.2.1 = []) = u at *
  have HU := Lib.hid hu
  clear hu
  by_cases h1 : c = 1
  · have hl := HL.out
    rw [if_pos h1] at hl
    have HLL := Lib.hid hl
    clear hl HL
    subst h1
    go_enter Try.func72, Try.ntmps72
    go_wp2_with (fail)
    refine (ways_any _).mono ?_
    rintro e w1 ⟨rfl, hw1, hb1⟩
    have hl0 := (HLK.out w1 _ hw1)
    have HW1 := Lib.hid (show Grows (w.alloc (.cells #[.int .i64 0, .string ⟨#[]⟩, .int .i64 0, .int .i64 0, .int .i64 0, .slice none 0 0, .slice none 0 0] 59)) w1 from hb1)
    have HZ1 := Lib.hid (HW1.out.whole (Whole.made w 59 #[.int .i64 0, .string ⟨#[]⟩, .int .i64 0, .int .i64 0, .int .i64 0, .slice none 0 0, .slice none 0 0]))
    simp only [World.size_alloc] at hl0
    clear hw1 hb1
    go_wp2_with (fail)
    have HG1 : Hid (Grows w w1) := Lib.hid (Grows.trans (grows_alloc w _) HW1.out)
    refine (HP.out _ _ (At.made HLL.out HG1.out)).mono ?_
    rintro e w3 ⟨LA, ln, lc, BA, bn, bc, rfl, hin, ha, ht⟩
    have hgo := Grows.trans (grows_alloc w1 (.cells #[.func (.func f1) #[] #[], .func (.func f2) #[] #[], .func (.func f3) #[] #[]] 154)) (grows_alloc _ (.cells #[.slice (some ad) (n - 1) (1 - 1), .bool false] 161))
    have hz := ht.whole (hgo.whole HZ1.out) (by have := HZ1.out.lt; omega)
    have hv := ht.whole ((grows_alloc _ _).whole (Whole.made w1 154 #[.func (.func f1) #[] #[], .func (.func f2) #[] #[], .func (.func f3) #[] #[]])) (by omega)
    have HB3 := Lib.hid (show Below w.heap.size w w3 from Below.trans (Grows.trans HG1.out hgo) (Below.mono (ht.below (by simp)) (Nat.le_trans HG1.out.size (Nat.le_succ _))))
    have HZ3 := Lib.hid hz
    have HS3 := Lib.hid (ha.up (grows_alloc w3 (.cells #[.int .i64 (b0.toNat : Int), .string ⟨p.1.key.toArray⟩, .int .i64 p.1.id, .int .i64 p.1.no, .int .i64 p.1.size, .slice LA ln lc, .slice BA bn bc] 158)))
    have HI3 := Lib.hid (hin.from (show w.heap.size + 1 ≤ _ by simp only [World.size_alloc]; have := HZ1.out.lt; omega))
    have HLT := Lib.hid (show w.heap.size < w1.heap.size from HZ1.out.lt)
    have v0 := hv.cell 0
    have v1 := hv.cell 1
    have v2 := hv.cell 2
    simp only [List.getElem?_toArray, List.getElem?_cons_zero, List.getElem?_cons_succ] at v0 v1 v2
    have hl3 := hv.lt
    clear hz hv hin ha ht hgo
    go_wp2_with (fail)
    refine (usedUp_any (w1.heap.size + 1) p.2 _ HS3.out).mono ?_
    rintro e w4 ⟨rfl, rfl⟩
    rw [HU.out]
    obtain ⟨V, hV⟩ : ∃ V, w3.alloc (.cells #[.int .i64 (b0.toNat : Int), .string ⟨p.1.key.toArray⟩, .int .i64 p.1.id, .int .i64 p.1.no, .int .i64 p.1.size, .slice LA ln lc, .slice BA bn bc] 158) = V := ⟨_, rfl⟩
    have hgV : Grows w3 V := hV ▸ grows_alloc _ _
    have hrV : Whole V w3.heap.size 158 #[.int .i64 (b0.toNat : Int), .string ⟨p.1.key.toArray⟩, .int .i64 p.1.id, .int .i64 p.1.no, .int .i64 p.1.size, .slice LA ln lc, .slice BA bn bc] := by rw [← hV]; exact Whole.made _ _ _
    have HRV := Lib.hid hrV
    have HZV := Lib.hid (hgV.whole HZ3.out)
    have HIV := Lib.hid (HI3.out.grow hgV)
    have HBV := Lib.hid (Below.trans HB3.out (Below.mono hgV HB3.out.size))
    have v0 := up_cell hgV v0
    rw [hV]
    clear hgV hrV hV v1 v2
    cases u with
    | false =>
      have hz := HZV.out
      have zc0 := hz.cell 0
      have zf0 := hz.free 0
      have zc1 := hz.cell 1
      have zf1 := hz.free 1
      have zc2 := hz.cell 2
      have zf2 := hz.free 2
      have zc3 := hz.cell 3
      have zf3 := hz.free 3
      have zc4 := hz.cell 4
      have zf4 := hz.free 4
      have zc5 := hz.cell 5
      have zf5 := hz.free 5
      have zc6 := hz.cell 6
      have zf6 := hz.free 6
      simp only [List.getElem?_toArray, List.getElem?_cons_zero, List.getElem?_cons_succ] at zc0 zc1 zc2 zc3 zc4 zc5 zc6
      clear hz
      go_wp2_with (fail)
      obtain ⟨W, hW, hwh, hwt⟩ := store7 HZV.out (.int .i64 0) (.string ⟨#[]⟩) (.int .i64 0) (.int .i64 0) (.int .i64 0) (.slice none 0 0) (.slice none 0 0)
      rw [hW]
      have hbW := hwt.below (by have := HZV.out.lt; omega)
      clear hW
      have hx := HOK.out.2
      have ho := HOK.out.1
      simp only [Bool.and_true, Bool.and_false, Bool.true_and, Bool.false_and] at ho
      subst ho
      simp only [if_true, Bool.false_eq_true, if_false] at hx
      subst hx
      refine bodyPost_ret (results_row_tmp rfl _ _ w.heap.size _ _ _ _ _ _ _ _ (.bool false) rfl rfl hwh) rfl ?_
      exact ⟨none, 0, 0, none, 0, 0, rfl, RcOwn.nil _ _ _ _ _ _ _, Below.trans HBV.out hbW⟩
    | true =>
      have hr := HRV.out
      have rc0 := hr.cell 0
      have rf0 := hr.free 0
      have rc1 := hr.cell 1
      have rf1 := hr.free 1
      have rc2 := hr.cell 2
      have rf2 := hr.free 2
      have rc3 := hr.cell 3
      have rf3 := hr.free 3
      have rc4 := hr.cell 4
      have rf4 := hr.free 4
      have rc5 := hr.cell 5
      have rf5 := hr.free 5
      have rc6 := hr.cell 6
      have rf6 := hr.free 6
      simp only [List.getElem?_toArray, List.getElem?_cons_zero, List.getElem?_cons_succ] at rc0 rc1 rc2 rc3 rc4 rc5 rc6
      clear hr
      go_wp2_with (fail)
      refine (HQ.out V LA ln lc BA bn bc HIV.out.inn).mono ?_
      rintro e w5 ⟨rfl, hb5⟩
      have hz := Grows.whole hb5 HZV.out
      have zc0 := hz.cell 0
      have zf0 := hz.free 0
      have zc1 := hz.cell 1
      have zf1 := hz.free 1
      have zc2 := hz.cell 2
      have zf2 := hz.free 2
      have zc3 := hz.cell 3
      have zf3 := hz.free 3
      have zc4 := hz.cell 4
      have zf4 := hz.free 4
      have zc5 := hz.cell 5
      have zf5 := hz.free 5
      have zc6 := hz.cell 6
      have zf6 := hz.free 6
      simp only [List.getElem?_toArray, List.getElem?_cons_zero, List.getElem?_cons_succ] at zc0 zc1 zc2 zc3 zc4 zc5 zc6
      have HZ5 := Lib.hid hz
      have hr := Grows.whole hb5 HRV.out
      have rc0 := hr.cell 0
      have rf0 := hr.free 0
      have rc1 := hr.cell 1
      have rf1 := hr.free 1
      have rc2 := hr.cell 2
      have rf2 := hr.free 2
      have rc3 := hr.cell 3
      have rf3 := hr.free 3
      have rc4 := hr.cell 4
      have rf4 := hr.free 4
      have rc5 := hr.cell 5
      have rf5 := hr.free 5
      have rc6 := hr.cell 6
      have rf6 := hr.free 6
      simp only [List.getElem?_toArray, List.getElem?_cons_zero, List.getElem?_cons_succ] at rc0 rc1 rc2 rc3 rc4 rc5 rc6
      have HI5 := Lib.hid (HIV.out.grow hb5)
      have HB5 := Lib.hid (Below.trans HBV.out (Below.mono hb5 HBV.out.size))
      clear hz hr hb5
      cases q with
      | false =>
        go_wp2_with (fail)
        obtain ⟨W, hW, hwh, hwt⟩ := store7 HZ5.out (.int .i64 0) (.string ⟨#[]⟩) (.int .i64 0) (.int .i64 0) (.int .i64 0) (.slice none 0 0) (.slice none 0 0)
        rw [hW]
        have hbW := hwt.below (by have := HZ5.out.lt; omega)
        clear hW
        have hx := HOK.out.2
        have ho := HOK.out.1
        simp only [Bool.and_true, Bool.and_false, Bool.true_and, Bool.false_and] at ho
        subst ho
        simp only [if_true, Bool.false_eq_true, if_false] at hx
        subst hx
        refine bodyPost_ret (results_row_tmp rfl _ _ w.heap.size _ _ _ _ _ _ _ _ (.bool false) rfl rfl hwh) rfl ?_
        exact ⟨none, 0, 0, none, 0, 0, rfl, RcOwn.nil _ _ _ _ _ _ _, Below.trans HB5.out hbW⟩
      | true =>
        go_wp2_with (fail)
        obtain ⟨W, hW, hwh, hwt⟩ := store7 HZ5.out (.int .i64 (b0.toNat : Int)) (.string ⟨p.1.key.toArray⟩) (.int .i64 p.1.id) (.int .i64 p.1.no) (.int .i64 p.1.size) (.slice LA ln lc) (.slice BA bn bc)
        rw [hW]
        have hbW := hwt.below (by have := HZ5.out.lt; omega)
        clear hW
        have hx := HOK.out.2
        have ho := HOK.out.1
        simp only [Bool.and_true, Bool.and_false, Bool.true_and, Bool.false_and] at ho
        subst ho
        simp only [if_true, Bool.false_eq_true, if_false] at hx
        subst hx
        refine bodyPost_ret (results_row_tmp rfl _ _ w.heap.size _ _ _ _ _ _ _ _ (.bool true) rfl rfl hwh) rfl ?_
        exact ⟨LA, ln, lc, BA, bn, bc, rfl, ⟨owned_from (HI5.out.turn hwt (Nat.lt_succ_self _)).locs (Nat.le_succ _), HI5.out.len, owned_from (HI5.out.turn hwt (Nat.lt_succ_self _)).b (Nat.le_succ _)⟩, Below.trans HB5.out hbW⟩

  · have hl := HL.out
    rw [if_neg h1, eA] at hl
    have HLL := Lib.hid hl
    have h1' : ¬ (c : Int) = 1 := by omega
    clear hl HL
    go_enter Try.func72, Try.ntmps72
    go_wp2_with (fail)
    refine (ways_any _).mono ?_
    rintro e w1 ⟨rfl, hw1, hb1⟩
    have hl0 := (HLK.out w1 _ hw1)
    have HW1 := Lib.hid (show Grows (w.alloc (.cells #[.int .i64 0, .string ⟨#[]⟩, .int .i64 0, .int .i64 0, .int .i64 0, .slice none 0 0, .slice none 0 0] 59)) w1 from hb1)
    have HZ1 := Lib.hid (HW1.out.whole (Whole.made w 59 #[.int .i64 0, .string ⟨#[]⟩, .int .i64 0, .int .i64 0, .int .i64 0, .slice none 0 0, .slice none 0 0]))
    simp only [World.size_alloc] at hl0
    clear hw1 hb1
    go_wp2_with (fail)
    have HG1 : Hid (Grows w w1) := Lib.hid (Grows.trans (grows_alloc w _) HW1.out)
    refine (HP.out _ _ (At.made HLL.out HG1.out)).mono ?_
    rintro e w3 ⟨LA, ln, lc, BA, bn, bc, rfl, hin, ha, ht⟩
    have hgo := Grows.trans (grows_alloc w1 (.cells #[.func (.func f1) #[] #[], .func (.func f2) #[] #[], .func (.func f3) #[] #[]] 154)) (grows_alloc _ (.cells #[.slice (some ⟨ad.block, ad.off + 1, none⟩) (n - 1) (c - 1), .bool false] 161))
    have hz := ht.whole (hgo.whole HZ1.out) (by have := HZ1.out.lt; omega)
    have hv := ht.whole ((grows_alloc _ _).whole (Whole.made w1 154 #[.func (.func f1) #[] #[], .func (.func f2) #[] #[], .func (.func f3) #[] #[]])) (by omega)
    have HB3 := Lib.hid (show Below w.heap.size w w3 from Below.trans (Grows.trans HG1.out hgo) (Below.mono (ht.below (by simp)) (Nat.le_trans HG1.out.size (Nat.le_succ _))))
    have HZ3 := Lib.hid hz
    have HS3 := Lib.hid (ha.up (grows_alloc w3 (.cells #[.int .i64 (b0.toNat : Int), .string ⟨p.1.key.toArray⟩, .int .i64 p.1.id, .int .i64 p.1.no, .int .i64 p.1.size, .slice LA ln lc, .slice BA bn bc] 158)))
    have HI3 := Lib.hid (hin.from (show w.heap.size + 1 ≤ _ by simp only [World.size_alloc]; have := HZ1.out.lt; omega))
    have HLT := Lib.hid (show w.heap.size < w1.heap.size from HZ1.out.lt)
    have v0 := hv.cell 0
    have v1 := hv.cell 1
    have v2 := hv.cell 2
    simp only [List.getElem?_toArray, List.getElem?_cons_zero, List.getElem?_cons_succ] at v0 v1 v2
    have hl3 := hv.lt
    clear hz hv hin ha ht hgo
    go_wp2_with (fail)
    refine (usedUp_any (w1.heap.size + 1) p.2 _ HS3.out).mono ?_
    rintro e w4 ⟨rfl, rfl⟩
    rw [HU.out]
    obtain ⟨V, hV⟩ : ∃ V, w3.alloc (.cells #[.int .i64 (b0.toNat : Int), .string ⟨p.1.key.toArray⟩, .int .i64 p.1.id, .int .i64 p.1.no, .int .i64 p.1.size, .slice LA ln lc, .slice BA bn bc] 158) = V := ⟨_, rfl⟩
    have hgV : Grows w3 V := hV ▸ grows_alloc _ _
    have hrV : Whole V w3.heap.size 158 #[.int .i64 (b0.toNat : Int), .string ⟨p.1.key.toArray⟩, .int .i64 p.1.id, .int .i64 p.1.no, .int .i64 p.1.size, .slice LA ln lc, .slice BA bn bc] := by rw [← hV]; exact Whole.made _ _ _
    have HRV := Lib.hid hrV
    have HZV := Lib.hid (hgV.whole HZ3.out)
    have HIV := Lib.hid (HI3.out.grow hgV)
    have HBV := Lib.hid (Below.trans HB3.out (Below.mono hgV HB3.out.size))
    have v0 := up_cell hgV v0
    rw [hV]
    clear hgV hrV hV v1 v2
    cases u with
    | false =>
      have hz := HZV.out
      have zc0 := hz.cell 0
      have zf0 := hz.free 0
      have zc1 := hz.cell 1
      have zf1 := hz.free 1
      have zc2 := hz.cell 2
      have zf2 := hz.free 2
      have zc3 := hz.cell 3
      have zf3 := hz.free 3
      have zc4 := hz.cell 4
      have zf4 := hz.free 4
      have zc5 := hz.cell 5
      have zf5 := hz.free 5
      have zc6 := hz.cell 6
      have zf6 := hz.free 6
      simp only [List.getElem?_toArray, List.getElem?_cons_zero, List.getElem?_cons_succ] at zc0 zc1 zc2 zc3 zc4 zc5 zc6
      clear hz
      go_wp2_with (fail)
      obtain ⟨W, hW, hwh, hwt⟩ := store7 HZV.out (.int .i64 0) (.string ⟨#[]⟩) (.int .i64 0) (.int .i64 0) (.int .i64 0) (.slice none 0 0) (.slice none 0 0)
      rw [hW]
      have hbW := hwt.below (by have := HZV.out.lt; omega)
      clear hW
      have hx := HOK.out.2
      have ho := HOK.out.1
      simp only [Bool.and_true, Bool.and_false, Bool.true_and, Bool.false_and] at ho
      subst ho
      simp only [if_true, Bool.false_eq_true, if_false] at hx
      subst hx
      refine bodyPost_ret (results_row_tmp rfl _ _ w.heap.size _ _ _ _ _ _ _ _ (.bool false) rfl rfl hwh) rfl ?_
      exact ⟨none, 0, 0, none, 0, 0, rfl, RcOwn.nil _ _ _ _ _ _ _, Below.trans HBV.out hbW⟩
    | true =>
      have hr := HRV.out
      have rc0 := hr.cell 0
      have rf0 := hr.free 0
      have rc1 := hr.cell 1
      have rf1 := hr.free 1
      have rc2 := hr.cell 2
      have rf2 := hr.free 2
      have rc3 := hr.cell 3
      have rf3 := hr.free 3
      have rc4 := hr.cell 4
      have rf4 := hr.free 4
      have rc5 := hr.cell 5
      have rf5 := hr.free 5
      have rc6 := hr.cell 6
      have rf6 := hr.free 6
      simp only [List.getElem?_toArray, List.getElem?_cons_zero, List.getElem?_cons_succ] at rc0 rc1 rc2 rc3 rc4 rc5 rc6
      clear hr
      go_wp2_with (fail)
      refine (HQ.out V LA ln lc BA bn bc HIV.out.inn).mono ?_
      rintro e w5 ⟨rfl, hb5⟩
      have hz := Grows.whole hb5 HZV.out
      have zc0 := hz.cell 0
      have zf0 := hz.free 0
      have zc1 := hz.cell 1
      have zf1 := hz.free 1
      have zc2 := hz.cell 2
      have zf2 := hz.free 2
      have zc3 := hz.cell 3
      have zf3 := hz.free 3
      have zc4 := hz.cell 4
      have zf4 := hz.free 4
      have zc5 := hz.cell 5
      have zf5 := hz.free 5
      have zc6 := hz.cell 6
      have zf6 := hz.free 6
      simp only [List.getElem?_toArray, List.getElem?_cons_zero, List.getElem?_cons_succ] at zc0 zc1 zc2 zc3 zc4 zc5 zc6
      have HZ5 := Lib.hid hz
      have hr := Grows.whole hb5 HRV.out
      have rc0 := hr.cell 0
      have rf0 := hr.free 0
      have rc1 := hr.cell 1
      have rf1 := hr.free 1
      have rc2 := hr.cell 2
      have rf2 := hr.free 2
      have rc3 := hr.cell 3
      have rf3 := hr.free 3
      have rc4 := hr.cell 4
      have rf4 := hr.free 4
      have rc5 := hr.cell 5
      have rf5 := hr.free 5
      have rc6 := hr.cell 6
      have rf6 := hr.free 6
      simp only [List.getElem?_toArray, List.getElem?_cons_zero, List.getElem?_cons_succ] at rc0 rc1 rc2 rc3 rc4 rc5 rc6
      have HI5 := Lib.hid (HIV.out.grow hb5)
      have HB5 := Lib.hid (Below.trans HBV.out (Below.mono hb5 HBV.out.size))
      clear hz hr hb5
      cases q with
      | false =>
        go_wp2_with (fail)
        obtain ⟨W, hW, hwh, hwt⟩ := store7 HZ5.out (.int .i64 0) (.string ⟨#[]⟩) (.int .i64 0) (.int .i64 0) (.int .i64 0) (.slice none 0 0) (.slice none 0 0)
        rw [hW]
        have hbW := hwt.below (by have := HZ5.out.lt; omega)
        clear hW
        have hx := HOK.out.2
        have ho := HOK.out.1
        simp only [Bool.and_true, Bool.and_false, Bool.true_and, Bool.false_and] at ho
        subst ho
        simp only [if_true, Bool.false_eq_true, if_false] at hx
        subst hx
        refine bodyPost_ret (results_row_tmp rfl _ _ w.heap.size _ _ _ _ _ _ _ _ (.bool false) rfl rfl hwh) rfl ?_
        exact ⟨none, 0, 0, none, 0, 0, rfl, RcOwn.nil _ _ _ _ _ _ _, Below.trans HB5.out hbW⟩
      | true =>
        go_wp2_with (fail)
        obtain ⟨W, hW, hwh, hwt⟩ := store7 HZ5.out (.int .i64 (b0.toNat : Int)) (.string ⟨p.1.key.toArray⟩) (.int .i64 p.1.id) (.int .i64 p.1.no) (.int .i64 p.1.size) (.slice LA ln lc) (.slice BA bn bc)
        rw [hW]
        have hbW := hwt.below (by have := HZ5.out.lt; omega)
        clear hW
        have hx := HOK.out.2
        have ho := HOK.out.1
        simp only [Bool.and_true, Bool.and_false, Bool.true_and, Bool.false_and] at ho
        subst ho
        simp only [if_true, Bool.false_eq_true, if_false] at hx
        subst hx
        refine bodyPost_ret (results_row_tmp rfl _ _ w.heap.size _ _ _ _ _ _ _ _ (.bool true) rfl rfl hwh) rfl ?_
        exact ⟨LA, ln, lc, BA, bn, bc, rfl, ⟨owned_from (HI5.out.turn hwt (Nat.lt_succ_self _)).locs (Nat.le_succ _), HI5.out.len, owned_from (HI5.out.turn hwt (Nat.lt_succ_self _)).b (Nat.le_succ _)⟩, Below.trans HB5.out hbW⟩

end Go.Proofs.Ytdkpbphgaenlnaa

/-
  rec's Get, of any bytes.
-/
namespace Go.Proofs.Ytdkpbphgaenlnaa
open Go.RowKit
set_option linter.unusedSimpArgs false
set_option linter.unusedVariables false

set_option maxRecDepth 100000 in
set_option maxHeartbeats 4000000 in
theorem get_empty (A : Option Addr) (c : Nat) (w : World) :
    Calls Try.prog 72 #[.slice A 0 c] w fun e w' => ∃ LA ln lc BA bn bc, e = .returned (.tuple #[.agg #[.int .i64 0, .string ⟨#[]⟩, .int .i64 0, .int .i64 0, .int .i64 0, .slice LA ln lc, .slice BA bn bc], .bool false]) ∧ RcOwn w' w.heap.size LA ln lc BA bn bc Rc.none ∧ Below w.heap.size w w' := by
  have HZ := Lib.hid (Whole.made w 59 #[.int .i64 0, .string ⟨#[]⟩, .int .i64 0, .int .i64 0, .int .i64 0, .slice none 0 0, .slice none 0 0])
  have hz := HZ.out
  have zc0 := hz.cell 0
  have zf0 := hz.free 0
  have zc1 := hz.cell 1
  have zf1 := hz.free 1
  have zc2 := hz.cell 2
  have zf2 := hz.free 2
  have zc3 := hz.cell 3
  have zf3 := hz.free 3
  have zc4 := hz.cell 4
  have zf4 := hz.free 4
  have zc5 := hz.cell 5
  have zf5 := hz.free 5
  have zc6 := hz.cell 6
  have zf6 := hz.free 6
  simp only [List.getElem?_toArray, List.getElem?_cons_zero, List.getElem?_cons_succ] at zc0 zc1 zc2 zc3 zc4 zc5 zc6
  clear hz
  go_enter Try.func72, Try.ntmps72
  go_wp2_with (fail)
  first
    | (refine bodyPost_ret (results_row_tmp rfl _ _ w.heap.size _ _ _ _ _ _ _ _ (.bool false) rfl rfl HZ.out) rfl ?_
       exact ⟨none, 0, 0, none, 0, 0, rfl, RcOwn.nil _ _ _ _ _ _ _, grows_alloc _ _⟩)
   

set_option maxRecDepth 100000 in
set_option maxHeartbeats 4000000 in
theorem get_else (ad : Addr) (n c : Nat) (b0 : UInt8) (bs : List UInt8) (w : World) (hs : Sl w (some ad) n c (b0 :: bs)) (hn : n ≤ 140737488351232)
    (hf : wayOf (b0.toNat : Int) = wNone) (hk : decide ((b0.toNat : Int) = 1 ∨ (b0.toNat : Int) = 2 ∨ (b0.toNat : Int) = 3 ∨ (b0.toNat : Int) = 4) = false) :
    Calls Try.prog 72 #[.slice (some ad) n c] w fun e w' => ∃ LA ln lc BA bn bc, e = .returned (.tuple #[.agg #[.int .i64 0, .string ⟨#[]⟩, .int .i64 0, .int .i64 0, .int .i64 0, .slice LA ln lc, .slice BA bn bc], .bool false]) ∧ RcOwn w' w.heap.size LA ln lc BA bn bc Rc.none ∧ Below w.heap.size w w' := by
  have hlen := hs.len
  simp only [List.length_cons] at hlen
  have hlook : ∀ (w1 : World) (g : Nat), WaysAt w1 g → (Instr.lookup 156 (.map (some g)) (.int .i64 (b0.toNat : Int)) true).run Try.prog w1 = .ok (.tuple #[.agg #[.nilFunc, .nilFunc, .nilFunc], .bool false]) w1 := fun w1 g h => by
    have := look_is h (b0.toNat : Int)
    rw [hf, hk] at this
    exact this
  have HLK := Lib.hid hlook
  have hst := fun a m w => store_nil a m w
  have hb0 := b0.toNat_lt
  obtain ⟨_, e0, hab, hcell⟩ := hs.bytes.spot (k := 0) (by omega)
  injection e0 with e0
  subst e0
  simp only [List.getD_cons_zero, Addr.add_zero'] at hcell
  have hn0 : (1 : Int) ≤ (n : Int) := by omega
  clear hlook hf hk hs
  go_enter Try.func72, Try.ntmps72
  go_wp2_with (fail)
  refine (ways_any _).mono ?_
  rintro e w1 ⟨rfl, hw1, hb1⟩
  have hl0 := (HLK.out w1 _ hw1)
  have HW1 := Lib.hid (show Grows (w.alloc (.cells #[.int .i64 0, .string ⟨#[]⟩, .int .i64 0, .int .i64 0, .int .i64 0, .slice none 0 0, .slice none 0 0] 59)) w1 from hb1)
  have HZ1 := Lib.hid (HW1.out.whole (Whole.made w 59 #[.int .i64 0, .string ⟨#[]⟩, .int .i64 0, .int .i64 0, .int .i64 0, .slice none 0 0, .slice none 0 0]))
  simp only [World.size_alloc] at hl0
  clear hw1 hb1
  have HZ := Lib.hid ((grows_alloc w1 (.cells #[.nilFunc, .nilFunc, .nilFunc] 154)).whole HZ1.out)
  have HG := Lib.hid (Grows.trans (Grows.trans (grows_alloc w _) HW1.out) (grows_alloc w1 (.cells #[.nilFunc, .nilFunc, .nilFunc] 154)))
  have hz := HZ.out
  have zc0 := hz.cell 0
  have zf0 := hz.free 0
  have zc1 := hz.cell 1
  have zf1 := hz.free 1
  have zc2 := hz.cell 2
  have zf2 := hz.free 2
  have zc3 := hz.cell 3
  have zf3 := hz.free 3
  have zc4 := hz.cell 4
  have zf4 := hz.free 4
  have zc5 := hz.cell 5
  have zf5 := hz.free 5
  have zc6 := hz.cell 6
  have zf6 := hz.free 6
  simp only [List.getElem?_toArray, List.getElem?_cons_zero, List.getElem?_cons_succ] at zc0 zc1 zc2 zc3 zc4 zc5 zc6
  clear hz
  go_wp2_with (fail)
  obtain ⟨W, hW, hwh, hwt⟩ := store7 HZ.out (.int .i64 0) (.string ⟨#[]⟩) (.int .i64 0) (.int .i64 0) (.int .i64 0) (.slice none 0 0) (.slice none 0 0)
  rw [hW]
  have hbW := hwt.below (by have := HZ.out.lt; omega)
  clear hW
  refine bodyPost_ret (results_row_tmp rfl _ _ w.heap.size _ _ _ _ _ _ _ _ (.bool false) rfl rfl hwh) rfl ?_
  exact ⟨none, 0, 0, none, 0, 0, rfl, RcOwn.nil _ _ _ _ _ _ _, Below.trans HG.out hbW⟩

theorem call_gotPiece (a : Array Value) (w : World) : (callFunc 122 a).run Try.prog w = .ok (.enter 122 a) w := by kernel_rfl
theorem call_gotRoot (a : Array Value) (w : World) : (callFunc 125 a).run Try.prog w = .ok (.enter 125 a) w := by kernel_rfl
theorem call_gotInline (a : Array Value) (w : World) : (callFunc 128 a).run Try.prog w = .ok (.enter 128 a) w := by kernel_rfl
theorem call_gotTomb (a : Array Value) (w : World) : (callFunc 131 a).run Try.prog w = .ok (.enter 131 a) w := by kernel_rfl
theorem some_is (c : UInt8) : (1 ≤ c.toNat ∧ c.toNat ≤ 4) ↔ ((c.toNat : Int) = 1 ∨ (c.toNat : Int) = 2 ∨ (c.toNat : Int) = 3 ∨ (c.toNat : Int) = 4) := by omega
theorem getR_cons (c : UInt8) (bs : List UInt8) : getR (c :: bs) = if 1 ≤ c.toNat ∧ c.toNat ≤ 4 then (if ((partS c.toNat (bs, false)).2.2 = false ∧ (partS c.toNat (bs, false)).2.1 = []) ∧ RightR { (partS c.toNat (bs, false)).1 with kind := c.toNat } then some { (partS c.toNat (bs, false)).1 with kind := c.toNat } else Option.none) else Option.none := rfl
theorem got_some (c : UInt8) (bs : List UInt8) (h : 1 ≤ c.toNat ∧ c.toNat ≤ 4) (q : Bool) (hq : q = decide (RightR { (partS c.toNat (bs, false)).1 with kind := c.toNat })) :
    (getR (c :: bs)).isSome = (decide ((partS c.toNat (bs, false)).2.2 = false ∧ (partS c.toNat (bs, false)).2.1 = []) && q) ∧
    (getR (c :: bs)).getD Rc.none = if (decide ((partS c.toNat (bs, false)).2.2 = false ∧ (partS c.toNat (bs, false)).2.1 = []) && q) then { (partS c.toNat (bs, false)).1 with kind := (c.toNat : Int) } else Rc.none := by
  subst hq
  rw [getR_cons, if_pos h]
  by_cases h1 : (partS c.toNat (bs, false)).2.2 = false ∧ (partS c.toNat (bs, false)).2.1 = []
  · by_cases h2 : RightR { (partS c.toNat (bs, false)).1 with kind := c.toNat }
    · rw [if_pos ⟨h1, h2⟩, decide_eq_true h1, decide_eq_true h2]
      exact ⟨rfl, rfl⟩
    · rw [if_neg (fun h => h2 h.2), decide_eq_true h1, decide_eq_false h2]
      exact ⟨rfl, rfl⟩
  · rw [if_neg (fun h => h1 h.1), decide_eq_false h1]
    exact ⟨rfl, rfl⟩

theorem get_any (A : Option Addr) (n c : Nat) (bs : List UInt8) (w : World) (hs : Sl w A n c bs) (hn : n ≤ 140737488351232) :
    Calls Try.prog 72 #[.slice A n c] w fun e w' => ∃ LA ln lc BA bn bc, e = .returned (.tuple #[.agg #[.int .i64 ((getR bs).getD Rc.none).kind, .string ⟨((getR bs).getD Rc.none).key.toArray⟩, .int .i64 ((getR bs).getD Rc.none).id, .int .i64 ((getR bs).getD Rc.none).no, .int .i64 ((getR bs).getD Rc.none).size, .slice LA ln lc, .slice BA bn bc], .bool (getR bs).isSome]) ∧ RcOwn w' w.heap.size LA ln lc BA bn bc ((getR bs).getD Rc.none) ∧ Below w.heap.size w w' := by
  have hlen := hs.len
  match bs, hlen with
  | [], hlen =>
    obtain rfl : n = 0 := by simpa using hlen.symm
    exact get_empty A c w
  | b0 :: bs, hlen =>
    simp only [List.length_cons] at hlen
    obtain ⟨ad, rfl, _, _⟩ := hs.bytes.spot (k := 0) (by omega)
    by_cases hk : 1 ≤ b0.toNat ∧ b0.toNat ≤ 4
    · have hk' := (some_is b0).1 hk
      have hsl : bs.length ≤ 140737488351232 := by omega
      by_cases h1 : (b0.toNat : Int) = 1
      · have hp : partS (b0.toNat : Int) (bs, false) = pieceS (bs, false) := by unfold partS; rw [if_pos h1]
        obtain ⟨g1, g2⟩ := got_some b0 bs hk (decide (PieceOk { (pieceS (bs, false)).1 with kind := (b0.toNat : Int) })) (by rw [hp]; exact decide_eq_decide.2 (right_Piece (r := { (pieceS (bs, false)).1 with kind := (b0.toNat : Int) }) h1).symm)
        rw [hp] at g1 g2
        rw [← g1] at g2
        exact get_of ad n c b0 bs w hs hn _ _ _ (by rw [h1]; rfl) (by rw [h1]; rfl) call_rightPiece call_gotPiece (pieceS (bs, false)) _ _ _ (fun W g h => piece_any g (bs, false) W h hsl)
          (fun W LA ln lc BA bn bc hin => is_Piece { (pieceS (bs, false)).1 with kind := (b0.toNat : Int) } LA ln lc BA bn bc W ⟨hin.locs, hin.sl⟩ W (Grows.refl W)) g1.symm g2
      by_cases h2 : (b0.toNat : Int) = 2
      · have hp : partS (b0.toNat : Int) (bs, false) = rootS (bs, false) := by unfold partS; rw [if_neg (by omega), if_pos h2]
        obtain ⟨g1, g2⟩ := got_some b0 bs hk (decide (RootOk { (rootS (bs, false)).1 with kind := (b0.toNat : Int) })) (by rw [hp]; exact decide_eq_decide.2 (right_Root (r := { (rootS (bs, false)).1 with kind := (b0.toNat : Int) }) h2).symm)
        rw [hp] at g1 g2
        rw [← g1] at g2
        exact get_of ad n c b0 bs w hs hn _ _ _ (by rw [h2]; rfl) (by rw [h2]; rfl) call_rightRoot call_gotRoot (rootS (bs, false)) _ _ _ (fun W g h => root_any g (bs, false) W h hsl)
          (fun W LA ln lc BA bn bc hin => is_Root { (rootS (bs, false)).1 with kind := (b0.toNat : Int) } LA ln lc BA bn bc W ⟨hin.locs, hin.sl⟩ W (Grows.refl W)) g1.symm g2
      by_cases h3 : (b0.toNat : Int) = 3
      · have hp : partS (b0.toNat : Int) (bs, false) = inlineS (bs, false) := by unfold partS; rw [if_neg (by omega), if_neg (by omega), if_pos h3]
        obtain ⟨g1, g2⟩ := got_some b0 bs hk (decide (InlineOk { (inlineS (bs, false)).1 with kind := (b0.toNat : Int) })) (by rw [hp]; exact decide_eq_decide.2 (right_Inline (r := { (inlineS (bs, false)).1 with kind := (b0.toNat : Int) }) h3).symm)
        rw [hp] at g1 g2
        rw [← g1] at g2
        exact get_of ad n c b0 bs w hs hn _ _ _ (by rw [h3]; rfl) (by rw [h3]; rfl) call_rightInline call_gotInline (inlineS (bs, false)) _ _ _ (fun W g h => inline_any g (bs, false) W h hsl)
          (fun W LA ln lc BA bn bc hin => is_Inline { (inlineS (bs, false)).1 with kind := (b0.toNat : Int) } LA ln lc BA bn bc W ⟨hin.locs, hin.sl⟩ W (Grows.refl W)) g1.symm g2
      by_cases h4 : (b0.toNat : Int) = 4
      · have hp : partS (b0.toNat : Int) (bs, false) = tombS (bs, false) := by unfold partS; rw [if_neg (by omega), if_neg (by omega), if_neg (by omega)]
        obtain ⟨g1, g2⟩ := got_some b0 bs hk (decide (TombOk { (tombS (bs, false)).1 with kind := (b0.toNat : Int) })) (by rw [hp]; exact decide_eq_decide.2 (right_Tomb (r := { (tombS (bs, false)).1 with kind := (b0.toNat : Int) }) h4).symm)
        rw [hp] at g1 g2
        rw [← g1] at g2
        exact get_of ad n c b0 bs w hs hn _ _ _ (by rw [h4]; rfl) (by rw [h4]; rfl) call_rightTomb call_gotTomb (tombS (bs, false)) _ _ _ (fun W g h => tomb_any g (bs, false) W h hsl)
          (fun W LA ln lc BA bn bc hin => is_Tomb { (tombS (bs, false)).1 with kind := (b0.toNat : Int) } LA ln lc BA bn bc W ⟨hin.locs, hin.sl⟩ W (Grows.refl W)) g1.symm g2
      omega
    · have hk' : ¬ ((b0.toNat : Int) = 1 ∨ (b0.toNat : Int) = 2 ∨ (b0.toNat : Int) = 3 ∨ (b0.toNat : Int) = 4) := fun h => hk ((some_is b0).2 h)
      have hg : getR (b0 :: bs) = Option.none := by
        rw [getR_cons, if_neg hk]
      rw [hg]
      exact get_else ad n c b0 bs w hs hn (by unfold wayOf; rw [if_neg (by omega), if_neg (by omega), if_neg (by omega), if_neg (by omega)]) (decide_eq_false hk')
end Go.Proofs.Ytdkpbphgaenlnaa

/-
  The walk of souterrainref04.Same: are two records alike?
-/
namespace Go.Proofs.Ytdkpbphgaenlnaa
open Go.RowKit
set_option linter.unusedSimpArgs false
set_option linter.unusedVariables false
attribute [local irreducible] Go.wpQuiet

theorem eq_loc (a b c d e f : Int) (w : World) : (Op.equalIn 10000 116 (.agg #[.int .i64 a, .int .i64 b, .int .i64 c]) (.agg #[.int .i64 d, .int .i64 e, .int .i64 f])).run Try.prog w = .ok (decide (a = d ∧ b = e ∧ c = f)) w := by
  have hf : Try.prog.fieldsOf 116 = #[{ name := "Seg", type := 3, offset := 0, embedded := false, tag := "", pkgPath := "", byteOffset := 0 }, { name := "At", type := 3, offset := 1, embedded := false, tag := "", pkgPath := "", byteOffset := 8 }, { name := "N", type := 3, offset := 2, embedded := false, tag := "", pkgPath := "", byteOffset := 16 }] := by
    unfold Program.fieldsOf
    rw [Try.underlying116]
  have hu : Try.prog.underlying 116 = some (.struct (Try.prog.fieldsOf 116)) := by rw [hf]; exact Try.underlying116
  have hp : Try.prog.stoodInHeld 116 = false := by kernel_rfl
  have hi : ∀ w, (isAgg 3).run Try.prog w = .ok false w := fun w => by kernel_rfl
  have he : ∀ (x y : Int) (w : World), (Op.equalIn 9999 3 (.int .i64 x) (.int .i64 y)).run Try.prog w = .ok (x == y) w := fun x y w => run_equalIn_int w 9998 _ _ _ x y Try.underlying3
  rw [run_equalIn_struct w 9999 _ _ _ hu hp, hf]
  have hpa : ∀ (cs : Array Value) (i : Nat) (v : Value) (w : World), cs[i]? = some v → (part 3 cs i).run Try.prog w = .ok v w := fun cs i v w h => by
    simp [part, hi, h]
  have h0 := fun w => hpa #[.int .i64 a, .int .i64 b, .int .i64 c] 0 (.int .i64 a) w rfl
  have h1 := fun w => hpa #[.int .i64 a, .int .i64 b, .int .i64 c] 1 (.int .i64 b) w rfl
  have h2 := fun w => hpa #[.int .i64 a, .int .i64 b, .int .i64 c] 2 (.int .i64 c) w rfl
  have g0 := fun w => hpa #[.int .i64 d, .int .i64 e, .int .i64 f] 0 (.int .i64 d) w rfl
  have g1 := fun w => hpa #[.int .i64 d, .int .i64 e, .int .i64 f] 1 (.int .i64 e) w rfl
  have g2 := fun w => hpa #[.int .i64 d, .int .i64 e, .int .i64 f] 2 (.int .i64 f) w rfl
  by_cases e1 : a = d
  · subst e1
    by_cases e2 : b = e
    · subst e2
      by_cases e3 : c = f
      · subst e3
        simp [Op.eqFields, h0, h1, h2, he]
      · have b3 : (c == f) = false := by simpa using e3
        simp [Op.eqFields, h0, h1, h2, g0, g1, g2, he, b3, e3]
    · have b2 : (b == e) = false := by simpa using e2
      simp [Op.eqFields, h0, h1, g0, g1, he, b2, e2]
  · have b1 : (a == d) = false := by simpa using e1
    simp [Op.eqFields, h0, g0, he, b1, e1]

theorem str_list_eq (a b : List UInt8) : (⟨a.toArray⟩ : ByteArray).toList = (⟨b.toArray⟩ : ByteArray).toList ↔ a = b := by
  rw [ByteArray.toList_eq, ByteArray.toList_eq]

set_option maxRecDepth 100000 in
set_option maxHeartbeats 8000000 in
theorem same_not (k1 : Int) (s1 : List UInt8) (i1 n1 z1 : Int) (LA1 : Option Addr) (ln1 lc1 : Nat) (BA1 : Option Addr) (bn1 bc1 : Nat) (ls1 : List Lc) (bs1 : List UInt8) (k2 : Int) (s2 : List UInt8) (i2 n2 z2 : Int) (LA2 : Option Addr) (ln2 lc2 : Nat) (BA2 : Option Addr) (bn2 bc2 : Nat) (ls2 : List Lc) (bs2 : List UInt8) (w : World) (h1 : RcIn w LA1 ln1 lc1 BA1 bn1 bc1 (⟨k1, s1, i1, n1, z1, ls1, bs1⟩ : Rc)) (h2 : RcIn w LA2 ln2 lc2 BA2 bn2 bc2 (⟨k2, s2, i2, n2, z2, ls2, bs2⟩ : Rc)) (hne : ¬ (k1 = k2 ∧ s1 = s2 ∧ i1 = i2 ∧ n1 = n2 ∧ z1 = z2 ∧ bs1 = bs2 ∧ ln1 = ln2)) :
    Calls Try.prog 33 #[.agg #[.int .i64 k1, .string ⟨s1.toArray⟩, .int .i64 i1, .int .i64 n1, .int .i64 z1, .slice LA1 ln1 lc1, .slice BA1 bn1 bc1], .agg #[.int .i64 k2, .string ⟨s2.toArray⟩, .int .i64 i2, .int .i64 n2, .int .i64 z2, .slice LA2 ln2 lc2, .slice BA2 bn2 bc2]] w fun e w' => e = .returned (.bool false) ∧ Below w.heap.size w w' := by
  have hs1 := fun w' (hg : Grows w w') => run_string (h1.sl.grow hg)
  have hs2 := fun w' (hg : Grows w w') => run_string (h2.sl.grow hg)
  have hG : ∀ o1 o2, Grows w ((w.alloc o1).alloc o2) := fun o1 o2 => Grows.trans (grows_alloc _ _) (grows_alloc _ _)
  have HN := Lib.hid hne
  clear h1 h2 hne
  dsimp only at hs1 hs2
  by_cases hln : ln1 = ln2
  · subst hln
    go_enter Try.func33, Try.ntmps33
    go_wp2_with (fail)
    all_goals first
      | (go_ret
         exact ⟨rfl, Grows.trans (grows_alloc _ _) (grows_alloc _ _)⟩)
      | (exfalso
         exact HN.out ⟨by assumption, by assumption, by assumption, by assumption, by assumption, by assumption, by first | exact rfl | trivial⟩)
  · have hd : ((ln1 : Int) != (ln2 : Int)) = true := by simp [bne]; omega
    clear hln
    go_enter Try.func33, Try.ntmps33
    go_wp2_with (fail)
    all_goals
      go_ret
      exact ⟨rfl, Grows.trans (grows_alloc _ _) (grows_alloc _ _)⟩

set_option maxRecDepth 100000 in
set_option maxHeartbeats 8000000 in
theorem same_like (k1 : Int) (s1 : List UInt8) (i1 n1 z1 : Int) (LA1 : Option Addr) (ln1 lc1 : Nat) (BA1 : Option Addr) (bn1 bc1 : Nat) (ls1 : List Lc) (bs1 : List UInt8) (LA2 : Option Addr) (lc2 : Nat) (BA2 : Option Addr) (bn2 bc2 : Nat) (ls2 : List Lc) (w : World) (h1 : RcIn w LA1 ln1 lc1 BA1 bn1 bc1 (⟨k1, s1, i1, n1, z1, ls1, bs1⟩ : Rc)) (h2 : RcIn w LA2 ln1 lc2 BA2 bn2 bc2 ⟨k1, s1, i1, n1, z1, ls2, bs1⟩) (hb : ln1 ≤ 1000000) :
    Calls Try.prog 33 #[.agg #[.int .i64 k1, .string ⟨s1.toArray⟩, .int .i64 i1, .int .i64 n1, .int .i64 z1, .slice LA1 ln1 lc1, .slice BA1 bn1 bc1], .agg #[.int .i64 k1, .string ⟨s1.toArray⟩, .int .i64 i1, .int .i64 n1, .int .i64 z1, .slice LA2 ln1 lc2, .slice BA2 bn2 bc2]] w fun e w' => e = .returned (.bool (decide (ls1 = ls2))) ∧ Below w.heap.size w w' := by
  have hs1 := fun w' (hg : Grows w w') => run_string (h1.sl.grow hg)
  have hs2 := fun w' (hg : Grows w w') => run_string (h2.sl.grow hg)
  have hG : ∀ o1 o2, Grows w ((w.alloc o1).alloc o2) := fun o1 o2 => Grows.trans (grows_alloc _ _) (grows_alloc _ _)
  have HL1 := Lib.hid h1.locs
  have HL2 := Lib.hid h2.locs
  clear h1 h2
  dsimp only at hs1 hs2 HL1 HL2
  obtain ⟨q, hq⟩ : ∃ q, decide (ls1 = ls2) = q := ⟨_, rfl⟩
  rw [hq]
  have HQ := Lib.hid hq
  clear hq
  go_enter Try.func33, Try.ntmps33
  go_wp2_with (fail)
  clear hs1 hs2 hG
  obtain ⟨W0, hW0⟩ : ∃ W0, (w.alloc (.cells #[.int .i64 k1, .string ⟨s1.toArray⟩, .int .i64 i1, .int .i64 n1, .int .i64 z1, .slice LA1 ln1 lc1, .slice BA1 bn1 bc1] 59)).alloc (.cells #[.int .i64 k1, .string ⟨s1.toArray⟩, .int .i64 i1, .int .i64 n1, .int .i64 z1, .slice LA2 ln1 lc2, .slice BA2 bn2 bc2] 59) = W0 := ⟨_, rfl⟩
  have hg0 : Grows w W0 := hW0 ▸ Grows.trans (grows_alloc _ _) (grows_alloc _ _)
  have HW1 : Hid (Whole W0 w.heap.size 59 #[.int .i64 k1, .string ⟨s1.toArray⟩, .int .i64 i1, .int .i64 n1, .int .i64 z1, .slice LA1 ln1 lc1, .slice BA1 bn1 bc1]) := Lib.hid (hW0 ▸ (grows_alloc _ _).whole (Whole.made _ _ _))
  have HW2 : Hid (Whole W0 (w.heap.size + 1) 59 #[.int .i64 k1, .string ⟨s1.toArray⟩, .int .i64 i1, .int .i64 n1, .int .i64 z1, .slice LA2 ln1 lc2, .slice BA2 bn2 bc2]) := Lib.hid (by rw [← hW0]; have := Whole.made (w.alloc (.cells #[.int .i64 k1, .string ⟨s1.toArray⟩, .int .i64 i1, .int .i64 n1, .int .i64 z1, .slice LA1 ln1 lc1, .slice BA1 bn1 bc1] 59)) 59 #[.int .i64 k1, .string ⟨s1.toArray⟩, .int .i64 i1, .int .i64 n1, .int .i64 z1, .slice LA2 ln1 lc2, .slice BA2 bn2 bc2]; rwa [World.size_alloc] at this)
  rw [hW0]
  have HG0 := Lib.hid hg0
  clear hW0 hg0
  go_loopw [5] (fun i wr => ∃ k : Nat, k ≤ ln1 ∧ i = .int .i64 (k : Nat) ∧ Hid (ls1.take k = ls2.take k) ∧ Hid (Grows W0 wr)) (fun i _ => ln1 - (intOf i).toNat)
  case atStart => exact ⟨0, by omega, rfl, Lib.hid (by simp), Lib.hid (Grows.refl _)⟩
  case round =>
    obtain ⟨k, hk, rfl, HE, HG⟩ := hrel
    have c15 : ∀ w', Grows wr w' → w'.cell? ⟨w.heap.size, 5, none⟩ = some (.slice LA1 ln1 lc1) := fun w' hg => ((Grows.trans HG.out hg).whole HW1.out).cell 5
    have c25 : ∀ w', Grows wr w' → w'.cell? ⟨w.heap.size + 1, 5, none⟩ = some (.slice LA2 ln1 lc2) := fun w' hg => ((Grows.trans HG.out hg).whole HW2.out).cell 5
    have d15 := c15 wr (Grows.refl _)
    have d25 := c25 wr (Grows.refl _)
    have l1 := HL1.out.len
    have l2 := HL2.out.len
    by_cases hlt : k < ln1
    · obtain ⟨ad, rfl, p0, p1, p2⟩ := (HL1.out.grow (Grows.trans HG0.out HG.out)).spot hlt
      obtain ⟨bd, rfl, q0, q1, q2⟩ := (HL2.out.grow (Grows.trans HG0.out HG.out)).spot hlt
      have hx1 := take_lc ls1 k (by omega)
      have hx2 := take_lc ls2 k (by omega)
      have hne : ls1.getD k (0, 0, 0) ≠ ls2.getD k (0, 0, 0) → ls1 ≠ ls2 := fun h e => h (by rw [e])
      have k0 : (0 : Int) ≤ (k : Int) := by omega
      have k1' : (k : Int) < (ln1 : Int) := by omega
      generalize ls1.getD k (0, 0, 0) = t at *
      generalize ls2.getD k (0, 0, 0) = u at *
      have HX := Lib.hid (And.intro hx1 (And.intro hx2 hne))
      obtain ⟨a0, a1, a2⟩ := t
      obtain ⟨b0, b1, b2⟩ := u
      dsimp only at p0 p1 p2 q0 q1 q2
      have heq := eq_loc a0 a1 a2 b0 b1 b2
      generalize hd : decide (a0 = b0 ∧ a1 = b1 ∧ a2 = b2) = d at *
      have HD := Lib.hid hd
      clear hx1 hx2 hne hd l1 l2
      go_wp2_with (fail)
      refine q_region (by kernel_rfl) (by kernel_rfl) ?_
      iterate 11 (refine q_op' (v := ?_) (a' := ?_) (by rfl) ?_ ?_ ?_
                  rotate_left 2
                  · intro w' hC
                    go_simp
                    try with_reducible rfl
                  · simp only [Act.put, List.setIfInBounds_toArray, List.set_cons_zero, List.set_cons_succ]
                    try rfl)
      refine wpQuiet_nil ?_
      intro w5 hC
      have HG5 := Lib.hid (Grows.trans HG.out hC)
      clear hC
      cases d with
      | true =>
        go_wp2_with (fail)
        go_roundw
        case rel =>
          refine ⟨k + 1, by omega, by go_num, Lib.hid ?_, HG5⟩
          have hd := of_decide_eq_true HD.out
          rw [HX.out.1, HX.out.2.1, HE.out, hd.1, hd.2.1, hd.2.2]
        case measure => simp [intOf]; omega
      | false =>
        go_wp2_with (fail)
        go_ret
        have hd := of_decide_eq_false HD.out
        exact ⟨ret_bool ((decide_eq_false (HX.out.2.2 (fun e => hd (by cases e; exact ⟨rfl, rfl, rfl⟩)))).symm.trans HQ.out), Grows.trans HG0.out HG5.out⟩
    · obtain rfl : k = ln1 := by omega
      have he := HE.out
      rw [List.take_of_length_le (by omega), List.take_of_length_le (by omega)] at he
      have HALL := Lib.hid he
      clear he
      go_wp2_with (fail)
      go_ret
      exact ⟨ret_bool ((decide_eq_true HALL.out).symm.trans HQ.out), Grows.trans HG0.out HG.out⟩

theorem same_any (x y : Rc) (LA1 : Option Addr) (ln1 lc1 : Nat) (BA1 : Option Addr) (bn1 bc1 : Nat) (LA2 : Option Addr) (ln2 lc2 : Nat) (BA2 : Option Addr) (bn2 bc2 : Nat) (w : World) (h1 : RcIn w LA1 ln1 lc1 BA1 bn1 bc1 x) (h2 : RcIn w LA2 ln2 lc2 BA2 bn2 bc2 y) (hb : ln1 ≤ 1000000) :
    Calls Try.prog 33 #[.agg #[.int .i64 x.kind, .string ⟨x.key.toArray⟩, .int .i64 x.id, .int .i64 x.no, .int .i64 x.size, .slice LA1 ln1 lc1, .slice BA1 bn1 bc1], .agg #[.int .i64 y.kind, .string ⟨y.key.toArray⟩, .int .i64 y.id, .int .i64 y.no, .int .i64 y.size, .slice LA2 ln2 lc2, .slice BA2 bn2 bc2]] w fun e w' => e = .returned (.bool (decide (x = y))) ∧ Below w.heap.size w w' := by
  obtain ⟨k1, s1, i1, n1, z1, ls1, bs1⟩ := x
  obtain ⟨k2, s2, i2, n2, z2, ls2, bs2⟩ := y
  by_cases h : k1 = k2 ∧ s1 = s2 ∧ i1 = i2 ∧ n1 = n2 ∧ z1 = z2 ∧ bs1 = bs2 ∧ ln1 = ln2
  · obtain ⟨rfl, rfl, rfl, rfl, rfl, rfl, rfl⟩ := h
    have e : decide (((⟨k1, s1, i1, n1, z1, ls1, bs1⟩ : Rc)) = (⟨k1, s1, i1, n1, z1, ls2, bs1⟩ : Rc)) = decide (ls1 = ls2) := decide_eq_decide.2 ⟨fun h => by injection h, fun h => by rw [h]⟩
    rw [e]
    exact same_like _ _ _ _ _ _ _ _ _ _ _ _ _ _ _ _ _ _ _ w h1 h2 hb
  · have e : ¬ ((⟨k1, s1, i1, n1, z1, ls1, bs1⟩ : Rc)) = (⟨k2, s2, i2, n2, z2, ls2, bs2⟩ : Rc) := fun e => h (by
      have l1 := h1.locs.len
      have l2 := h2.locs.len
      cases e
      exact ⟨rfl, rfl, rfl, rfl, rfl, rfl, l1.symm.trans l2⟩)
    rw [decide_eq_false e]
    exact same_not _ _ _ _ _ _ _ _ _ _ _ _ _ _ _ _ _ _ _ _ _ _ _ _ _ _ w h1 h2 h
end Go.Proofs.Ytdkpbphgaenlnaa
