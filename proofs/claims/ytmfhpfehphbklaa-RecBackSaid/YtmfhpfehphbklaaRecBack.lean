/-
  RecBack holds of any record and any bytes: a right record is got of its bytes as it was, which are a body; what is got of any bytes is right, and has them; no condition.
-/
import Derived.Test.YtmfhpfehphbklaaRcHead
import Derived.Test.YtmfhpfehphbklaaRcIn
import Derived.Test.YtmfhpfehphbklaaRcBack
import Derived.ProofKit
import Derived.ChangeOld
namespace Go.Proofs.Ytmfhpfehphbklaa
open Go.ChangeShapes Go.WideShapes Go.ChangeAt Go.RowKit
set_option linter.unusedSimpArgs false
set_option linter.unusedVariables false


set_option maxRecDepth 100000 in
set_option maxHeartbeats 8000000 in
theorem recBack_law {w : World} (kd : Int) (ks : List UInt8) (id no size : Int) (LA : Option Addr) (ln lc : Nat) (BA : Option Addr) (bn bc : Nat) (ls : List Lc) (bs : List UInt8) (hin : RcIn w LA ln lc BA bn bc (⟨kd, ks, id, no, size, ls, bs⟩ : Rc)) (A : Option Addr) (n c : Nat) (xs : List UInt8) (hcame : Came w A n c xs) :
    Calls Try.prog 4 #[.agg #[.int .i64 kd, .string ⟨ks.toArray⟩, .int .i64 id, .int .i64 no, .int .i64 size, .slice LA ln lc, .slice BA bn bc], .slice A n c] w fun e w' => e = .returned (.bool true) ∧ Below w.heap.size w w' := by
  have hreach := hcame.reach
  have hcap := hcame.cap
  have HB := Lib.hid hcame.sl
  have HI := Lib.hid hin
  have HZ0 := Lib.hid (Whole.made w 25 #[.int .i64 kd, .string ⟨ks.toArray⟩, .int .i64 id, .int .i64 no, .int .i64 size, .slice LA ln lc, .slice BA bn bc])
  have HG0 := Lib.hid (grows_alloc w (.cells #[.int .i64 kd, .string ⟨ks.toArray⟩, .int .i64 id, .int .i64 no, .int .i64 size, .slice LA ln lc, .slice BA bn bc] 25))
  clear hin hcame
  go_enter Try.func4, Try.ntmps4
  go_wp2_with (fail)
  refine (head_any _).mono ?_
  rintro e w1 ⟨rfl, hb⟩
  have hz := Grows.whole hb HZ0.out
  have c0 := hz.cell 0
  have c1 := hz.cell 1
  have c2 := hz.cell 2
  have c3 := hz.cell 3
  have c4 := hz.cell 4
  have c5 := hz.cell 5
  have c6 := hz.cell 6
  simp only [List.getElem?_toArray, List.getElem?_cons_zero, List.getElem?_cons_succ] at c0 c1 c2 c3 c4 c5 c6
  have HZ1 := Lib.hid hz
  have HG1 := Lib.hid (Grows.trans HG0.out hb)
  clear hb hz HZ0 
  go_wp2_with (fail)
  clear c0 c1 c2 c3 c4 c5 c6
  refine (great_any _ _ _ _ _ _ _ _ _ _ _ _).mono ?_
  rintro e w2 ⟨⟨g, rfl⟩, hb⟩
  have hz := Grows.whole hb HZ1.out
  have c0 := hz.cell 0
  have c1 := hz.cell 1
  have c2 := hz.cell 2
  have c3 := hz.cell 3
  have c4 := hz.cell 4
  have c5 := hz.cell 5
  have c6 := hz.cell 6
  simp only [List.getElem?_toArray, List.getElem?_cons_zero, List.getElem?_cons_succ] at c0 c1 c2 c3 c4 c5 c6
  have HZ2 := Lib.hid hz
  have HG2 := Lib.hid (Grows.trans HG1.out hb)
  clear hb hz HZ1 
  cases g with
  | true =>
    go_wp2_with (fail)
    go_ret
    exact ⟨rfl, HG2.out⟩
  | false =>
    by_cases hn2 : 20000 < n
    · have hn3 : (20000 : Int) < (n : Int) := by omega
      go_wp2_with (fail)
      go_ret
      exact ⟨rfl, HG2.out⟩
    · have hn3 : ¬ (20000 : Int) < (n : Int) := by omega
      go_wp2_with (fail)
      clear c0 c1 c2 c3 c4 c5 c6
      have hp := put_own (⟨kd, ks, id, no, size, ls, bs⟩ : Rc) LA ln lc BA bn bc w2 (HI.out.grow HG2.out)
      dsimp only at hp
      refine (hp).mono ?_
      rintro e w3 ⟨A3, m3, c3', rfl, ho, hb⟩
      have hz := Grows.whole hb HZ2.out
      have c0 := hz.cell 0
      have c1 := hz.cell 1
      have c2 := hz.cell 2
      have c3 := hz.cell 3
      have c4 := hz.cell 4
      have c5 := hz.cell 5
      have c6 := hz.cell 6
      simp only [List.getElem?_toArray, List.getElem?_cons_zero, List.getElem?_cons_succ] at c0 c1 c2 c3 c4 c5 c6
      have HZ3 := Lib.hid hz
      have HG3 := Lib.hid (Grows.trans HG2.out hb)
      have hm3 : m3 = (putR (⟨kd, ks, id, no, size, ls, bs⟩ : Rc)).length := by have := ho.1; simpa using this.symm
      have HS3 := Lib.hid (Sl.owned ho)
      have HM3 := Lib.hid hm3
      clear ho hm3 hp
      clear hb hz HZ2 
      go_wp2_with (fail)
      clear c0 c1 c2 c3 c4 c5 c6
      have hr := rcright_any (⟨kd, ks, id, no, size, ls, bs⟩ : Rc) LA ln lc BA bn bc w3 (HI.out.grow HG3.out)
      dsimp only at hr
      refine (hr).mono ?_
      rintro e w4 ⟨rfl, hb⟩
      have hz := Grows.whole hb HZ3.out
      have c0 := hz.cell 0
      have c1 := hz.cell 1
      have c2 := hz.cell 2
      have c3 := hz.cell 3
      have c4 := hz.cell 4
      have c5 := hz.cell 5
      have c6 := hz.cell 6
      simp only [List.getElem?_toArray, List.getElem?_cons_zero, List.getElem?_cons_succ] at c0 c1 c2 c3 c4 c5 c6
      have HZ4 := Lib.hid hz
      have HG4 := Lib.hid (Grows.trans HG3.out hb)
      have HS4 := Lib.hid (HS3.out.grow hb)
      clear HS3 hr
      clear hb hz HZ3 
      by_cases hr : RightR (⟨kd, ks, id, no, size, ls, bs⟩ : Rc)
      · have hbd := put_body hr
        rw [← HM3.out] at hbd
        have m1 : (0 : Int) < (m3 : Int) := by omega
        have m2 : ¬ (8192 : Int) < (m3 : Int) := by omega
        have hgp := get_put hr
        have hln : ln ≤ 1000000 := by
          have h1 := HI.out.locs.len
          dsimp only at h1
          unfold RightR PieceOk RootOk InlineOk TombOk Bare LocsOk at hr
          dsimp only at hr
          omega
        rw [decide_eq_true hr]
        clear hr hbd
        go_wp2_with (fail)
        have hq := get_any A3 m3 c3' _ w4 HS4.out (by omega)
        rw [hgp] at hq
        simp only [Option.getD_some, Option.isSome_some] at hq
        clear c0 c1 c2 c3 c4 c5 c6 hgp
        refine hq.mono ?_
        clear hq
        rintro e w5 ⟨LX, lxn, lxc, BX, bxn, bxc, rfl, hx, hb5⟩
        have hlx := hx.len
        have k5 := grows_alloc w5 (.cells #[.int .i64 kd, .string ⟨ks.toArray⟩, .int .i64 id, .int .i64 no, .int .i64 size, .slice LX lxn lxc, .slice BX bxn bxc] 25)
        have HXX := Lib.hid (hx.inn.grow k5)
        have HX0 := Lib.hid (Whole.made w5 25 #[.int .i64 kd, .string ⟨ks.toArray⟩, .int .i64 id, .int .i64 no, .int .i64 size, .slice LX lxn lxc, .slice BX bxn bxc])
        have HZ5 := Lib.hid ((Grows.trans hb5 k5).whole HZ4.out)
        have HG5 := Lib.hid (Grows.trans HG4.out (Grows.trans hb5 k5))
        obtain ⟨V5, hV5⟩ : ∃ V, w5.alloc (.cells #[.int .i64 kd, .string ⟨ks.toArray⟩, .int .i64 id, .int .i64 no, .int .i64 size, .slice LX lxn lxc, .slice BX bxn bxc] 25) = V := ⟨_, rfl⟩
        rw [hV5] at HXX HX0 HZ5 HG5
        have hz := HZ5.out
        have c0 := hz.cell 0
        have c1 := hz.cell 1
        have c2 := hz.cell 2
        have c3 := hz.cell 3
        have c4 := hz.cell 4
        have c5 := hz.cell 5
        have c6 := hz.cell 6
        simp only [List.getElem?_toArray, List.getElem?_cons_zero, List.getElem?_cons_succ] at c0 c1 c2 c3 c4 c5 c6
        have hz2 := HX0.out
        have x0 := hz2.cell 0
        have x1 := hz2.cell 1
        have x2 := hz2.cell 2
        have x3 := hz2.cell 3
        have x4 := hz2.cell 4
        have x5 := hz2.cell 5
        have x6 := hz2.cell 6
        simp only [List.getElem?_toArray, List.getElem?_cons_zero, List.getElem?_cons_succ] at x0 x1 x2 x3 x4 x5 x6
        clear hz hz2 hb5 k5 hx
        go_wp2_with (fail)
        try rw [hV5]
        have hs := same_any (⟨kd, ks, id, no, size, ls, bs⟩ : Rc) (⟨kd, ks, id, no, size, ls, bs⟩ : Rc) LX lxn lxc BX bxn bxc LA ln lc BA bn bc V5 HXX.out (HI.out.grow HG5.out) (by have h1 := HI.out.locs.len; dsimp only at h1 hlx; omega)
        rw [decide_eq_true rfl] at hs
        refine hs.mono ?_
        clear hs
        rintro e w6 ⟨rfl, hb6⟩
        have HG6 := Lib.hid (Grows.trans HG5.out hb6)
        clear hb6 c0 c1 c2 c3 c4 c5 c6 x0 x1 x2 x3 x4 x5 x6 hlx
        go_wp2_with (fail)
        have hq := get_any A n c xs w6 (HB.out.grow HG6.out) (by omega)
        cases hgx : getR xs with
        | none =>
          rw [hgx] at hq
          simp only [Option.getD_none, Option.isSome_none] at hq
          refine hq.mono ?_
          clear hq
          rintro e w20 ⟨LY, lyn, lyc, BY, byn, byc, rfl, hy, hb20⟩
          have k20 := grows_alloc w20 (.cells #[.int .i64 Rc.none.kind, .string ⟨Rc.none.key.toArray⟩, .int .i64 Rc.none.id, .int .i64 Rc.none.no, .int .i64 Rc.none.size, .slice LY lyn lyc, .slice BY byn byc] 25)
          have HY := Lib.hid (hy.inn.grow k20)
          have hly := hy.len
          have HG20 := Lib.hid (Grows.trans HG6.out (Grows.trans hb20 k20))
          clear hb20 k20 hy
          go_wp2_with (fail)
          have hs := same_any Rc.none Rc.none LY lyn lyc BY byn byc none 0 0 none 0 0 _ HY.out ⟨Locs.nil _, Sl.nil _⟩ (by simp [Rc.none] at hly; omega)
          rw [decide_eq_true rfl] at hs
          refine hs.mono ?_
          clear hs
          rintro e w21 ⟨rfl, hb21⟩
          have HG21 := Lib.hid (Grows.trans HG20.out hb21)
          clear hb21
          go_wp2_with (fail)
          go_ret
          exact ⟨rfl, HG21.out⟩
        | some y =>
          rw [hgx] at hq
          obtain ⟨hry, hpy⟩ := put_get hgx
          simp only [Option.getD_some, Option.isSome_some] at hq
          refine hq.mono ?_
          clear hq
          rintro e w20 ⟨LY, lyn, lyc, BY, byn, byc, rfl, hy, hb20⟩
          have hx8 := Whole.made w20 25 #[.int .i64 y.kind, .string ⟨y.key.toArray⟩, .int .i64 y.id, .int .i64 y.no, .int .i64 y.size, .slice LY lyn lyc, .slice BY byn byc]
          have k20 := grows_alloc w20 (.cells #[.int .i64 y.kind, .string ⟨y.key.toArray⟩, .int .i64 y.id, .int .i64 y.no, .int .i64 y.size, .slice LY lyn lyc, .slice BY byn byc] 25)
          obtain ⟨V, hV⟩ : ∃ V, w20.alloc (.cells #[.int .i64 y.kind, .string ⟨y.key.toArray⟩, .int .i64 y.id, .int .i64 y.no, .int .i64 y.size, .slice LY lyn lyc, .slice BY byn byc] 25) = V := ⟨_, rfl⟩
          have HX8 := Lib.hid hx8
          have HY := Lib.hid (hy.inn.grow k20)
          have HG20 := Lib.hid (Grows.trans HG6.out (Grows.trans hb20 k20))
          have HB8 := Lib.hid (HB.out.grow HG20.out)
          rw [hV] at HX8 HY HG20 HB8
          have HRY := Lib.hid (fun (w' : World) (hg : Grows V w') => (decide_eq_true hry) ▸ rcright_any y LY lyn lyc BY byn byc w' (HY.out.grow hg))
          have hpp : ∀ w', Grows V w' → Calls Try.prog 18 #[.agg #[.int .i64 y.kind, .string ⟨y.key.toArray⟩, .int .i64 y.id, .int .i64 y.no, .int .i64 y.size, .slice LY lyn lyc, .slice BY byn byc]] w' fun e w'' => ∃ A m c, e = .returned (.slice A m c) ∧ Sl w'' A m c xs ∧ Below w'.heap.size w' w'' := fun w' hg => (put_own y LY lyn lyc BY byn byc w' (HY.out.grow hg)).mono fun e w'' ⟨A', m', c', he, ho, hb⟩ => ⟨A', m', c', he, by rw [hpy] at ho; exact Sl.owned ho, hb⟩
          have HPY := Lib.hid hpp
          have yc0 : ∀ w', Grows V w' → w'.cell? ⟨w20.heap.size, 0, none⟩ = some (.int .i64 y.kind) := fun w' hg => (hg.whole HX8.out).cell 0
          have yc1 : ∀ w', Grows V w' → w'.cell? ⟨w20.heap.size, 1, none⟩ = some (.string ⟨y.key.toArray⟩) := fun w' hg => (hg.whole HX8.out).cell 1
          have yc2 : ∀ w', Grows V w' → w'.cell? ⟨w20.heap.size, 2, none⟩ = some (.int .i64 y.id) := fun w' hg => (hg.whole HX8.out).cell 2
          have yc3 : ∀ w', Grows V w' → w'.cell? ⟨w20.heap.size, 3, none⟩ = some (.int .i64 y.no) := fun w' hg => (hg.whole HX8.out).cell 3
          have yc4 : ∀ w', Grows V w' → w'.cell? ⟨w20.heap.size, 4, none⟩ = some (.int .i64 y.size) := fun w' hg => (hg.whole HX8.out).cell 4
          have yc5 : ∀ w', Grows V w' → w'.cell? ⟨w20.heap.size, 5, none⟩ = some (.slice LY lyn lyc) := fun w' hg => (hg.whole HX8.out).cell 5
          have yc6 : ∀ w', Grows V w' → w'.cell? ⟨w20.heap.size, 6, none⟩ = some (.slice BY byn byc) := fun w' hg => (hg.whole HX8.out).cell 6
          clear hb20 k20 hy hx8 hpp hry hpy
          go_wp2_with (fail)
          try rw [hV]
          refine wp_region_facts (E := Grows) [valFact (.bool true), valFact (.bool true), valFact (.agg #[.int .i64 y.kind, .string ⟨y.key.toArray⟩, .int .i64 y.id, .int .i64 y.no, .int .i64 y.size, .slice LY lyn lyc, .slice BY byn byc]), valFact (.bool true), valFact (.bool true), valFact (.bool true), valFact (.agg #[.int .i64 y.kind, .string ⟨y.key.toArray⟩, .int .i64 y.id, .int .i64 y.no, .int .i64 y.size, .slice LY lyn lyc, .slice BY byn byc]), slFact (xs), valFact (.string ⟨xs.toArray⟩), valFact (.slice A n c), valFact (.string ⟨xs.toArray⟩), valFact (.bool true), valFact (.bool true), valFact (.bool true)] (by kernel_rfl) (by kernel_rfl) (fun _ _ _ => Grows.trans) (grows_drew _) ?_
          refine f_val (.bool true) (by rfl) ?_ ?_
          · intro w' hC; clear hC; go_simp
          simp only [Act.put, List.setIfInBounds_toArray, List.set_cons_zero, List.set_cons_succ]
          refine f_val (.bool true) (by rfl) ?_ ?_
          · intro w' hC; clear hC; go_simp
          simp only [Act.put, List.setIfInBounds_toArray, List.set_cons_zero, List.set_cons_succ]
          refine f_known (.agg #[.int .i64 y.kind, .string ⟨y.key.toArray⟩, .int .i64 y.id, .int .i64 y.no, .int .i64 y.size, .slice LY lyn lyc, .slice BY byn byc]) (by rfl) ?_ ?_
          · intro w' hC _; go_simp
          simp only [Act.put, List.setIfInBounds_toArray, List.set_cons_zero, List.set_cons_succ]
          refine f_call 16 #[.agg #[.int .i64 y.kind, .string ⟨y.key.toArray⟩, .int .i64 y.id, .int .i64 y.no, .int .i64 y.size, .slice LY lyn lyc, .slice BY byn byc]] (.bool true) (by rfl) (by intro w' hC; clear hC; go_simp) ?_ ?_
          · intro w' hC _; exact (HRY.out w' hC).mono fun e w'' h => ⟨h.1, h.2⟩
          simp only [Act.put, List.setIfInBounds_toArray, List.set_cons_zero, List.set_cons_succ]
          refine f_val (.bool true) (by rfl) ?_ ?_
          · intro w' hC; clear hC; go_simp
          simp only [Act.put, List.setIfInBounds_toArray, List.set_cons_zero, List.set_cons_succ]
          refine f_val (.bool true) (by rfl) ?_ ?_
          · intro w' hC; clear hC; go_simp
          simp only [Act.put, List.setIfInBounds_toArray, List.set_cons_zero, List.set_cons_succ]
          refine f_known (.agg #[.int .i64 y.kind, .string ⟨y.key.toArray⟩, .int .i64 y.id, .int .i64 y.no, .int .i64 y.size, .slice LY lyn lyc, .slice BY byn byc]) (by rfl) ?_ ?_
          · intro w' hC _; go_simp
          simp only [Act.put, List.setIfInBounds_toArray, List.set_cons_zero, List.set_cons_succ]
          refine f_new (xs) 18 #[.agg #[.int .i64 y.kind, .string ⟨y.key.toArray⟩, .int .i64 y.id, .int .i64 y.no, .int .i64 y.size, .slice LY lyn lyc, .slice BY byn byc]] (by rfl) (by intro w' hC; clear hC; go_simp) ?_ ?_
          · intro w' hC _; exact (HPY.out w' hC)
          intro A20 c20
          simp only [Act.put, List.setIfInBounds_toArray, List.set_cons_zero, List.set_cons_succ]
          refine f_known (.string ⟨xs.toArray⟩) (by rfl) ?_ ?_
          · intro w' hC hk; exact run_op_string rfl rfl (Known.get hk 0 rfl (by rfl))
          simp only [Act.put, List.setIfInBounds_toArray, List.set_cons_zero, List.set_cons_succ]
          refine f_val (.slice A n c) (by rfl) ?_ ?_
          · intro w' hC; clear hC; go_simp
          simp only [Act.put, List.setIfInBounds_toArray, List.set_cons_zero, List.set_cons_succ]
          refine f_known (.string ⟨xs.toArray⟩) (by rfl) ?_ ?_
          · intro w' hC _; exact run_op_string rfl rfl (HB8.out.grow hC)
          simp only [Act.put, List.setIfInBounds_toArray, List.set_cons_zero, List.set_cons_succ]
          refine f_val (.bool true) (by rfl) ?_ ?_
          · intro w' hC; clear hC; go_simp
          simp only [Act.put, List.setIfInBounds_toArray, List.set_cons_zero, List.set_cons_succ]
          refine f_val (.bool true) (by rfl) ?_ ?_
          · intro w' hC; clear hC; go_simp
          simp only [Act.put, List.setIfInBounds_toArray, List.set_cons_zero, List.set_cons_succ]
          refine f_val (.bool true) (by rfl) ?_ ?_
          · intro w' hC; clear hC; go_simp
          simp only [Act.put, List.setIfInBounds_toArray, List.set_cons_zero, List.set_cons_succ]
          intro w21 hC _
          have HCw21 := Lib.hid hC
          clear hC
          go_wp2_with (fail)
          go_ret
          exact ⟨rfl, Grows.trans HG20.out HCw21.out⟩
      · have hm : m3 = 0 := by rw [HM3.out]; exact put_empty.2 hr
        subst hm
        rw [decide_eq_false hr]
        clear hr c0 c1 c2 c3 c4 c5 c6
        go_wp2_with (fail)
        have hq := get_any A n c xs w4 (HB.out.grow HG4.out) (by omega)
        cases hgx : getR xs with
        | none =>
          rw [hgx] at hq
          simp only [Option.getD_none, Option.isSome_none] at hq
          refine hq.mono ?_
          clear hq
          rintro e w20 ⟨LY, lyn, lyc, BY, byn, byc, rfl, hy, hb20⟩
          have k20 := grows_alloc w20 (.cells #[.int .i64 Rc.none.kind, .string ⟨Rc.none.key.toArray⟩, .int .i64 Rc.none.id, .int .i64 Rc.none.no, .int .i64 Rc.none.size, .slice LY lyn lyc, .slice BY byn byc] 25)
          have HY := Lib.hid (hy.inn.grow k20)
          have hly := hy.len
          have HG20 := Lib.hid (Grows.trans HG4.out (Grows.trans hb20 k20))
          clear hb20 k20 hy
          go_wp2_with (fail)
          have hs := same_any Rc.none Rc.none LY lyn lyc BY byn byc none 0 0 none 0 0 _ HY.out ⟨Locs.nil _, Sl.nil _⟩ (by simp [Rc.none] at hly; omega)
          rw [decide_eq_true rfl] at hs
          refine hs.mono ?_
          clear hs
          rintro e w21 ⟨rfl, hb21⟩
          have HG21 := Lib.hid (Grows.trans HG20.out hb21)
          clear hb21
          go_wp2_with (fail)
          go_ret
          exact ⟨rfl, HG21.out⟩
        | some y =>
          rw [hgx] at hq
          obtain ⟨hry, hpy⟩ := put_get hgx
          simp only [Option.getD_some, Option.isSome_some] at hq
          refine hq.mono ?_
          clear hq
          rintro e w20 ⟨LY, lyn, lyc, BY, byn, byc, rfl, hy, hb20⟩
          have hx8 := Whole.made w20 25 #[.int .i64 y.kind, .string ⟨y.key.toArray⟩, .int .i64 y.id, .int .i64 y.no, .int .i64 y.size, .slice LY lyn lyc, .slice BY byn byc]
          have k20 := grows_alloc w20 (.cells #[.int .i64 y.kind, .string ⟨y.key.toArray⟩, .int .i64 y.id, .int .i64 y.no, .int .i64 y.size, .slice LY lyn lyc, .slice BY byn byc] 25)
          obtain ⟨V, hV⟩ : ∃ V, w20.alloc (.cells #[.int .i64 y.kind, .string ⟨y.key.toArray⟩, .int .i64 y.id, .int .i64 y.no, .int .i64 y.size, .slice LY lyn lyc, .slice BY byn byc] 25) = V := ⟨_, rfl⟩
          have HX8 := Lib.hid hx8
          have HY := Lib.hid (hy.inn.grow k20)
          have HG20 := Lib.hid (Grows.trans HG4.out (Grows.trans hb20 k20))
          have HB8 := Lib.hid (HB.out.grow HG20.out)
          rw [hV] at HX8 HY HG20 HB8
          have HRY := Lib.hid (fun (w' : World) (hg : Grows V w') => (decide_eq_true hry) ▸ rcright_any y LY lyn lyc BY byn byc w' (HY.out.grow hg))
          have hpp : ∀ w', Grows V w' → Calls Try.prog 18 #[.agg #[.int .i64 y.kind, .string ⟨y.key.toArray⟩, .int .i64 y.id, .int .i64 y.no, .int .i64 y.size, .slice LY lyn lyc, .slice BY byn byc]] w' fun e w'' => ∃ A m c, e = .returned (.slice A m c) ∧ Sl w'' A m c xs ∧ Below w'.heap.size w' w'' := fun w' hg => (put_own y LY lyn lyc BY byn byc w' (HY.out.grow hg)).mono fun e w'' ⟨A', m', c', he, ho, hb⟩ => ⟨A', m', c', he, by rw [hpy] at ho; exact Sl.owned ho, hb⟩
          have HPY := Lib.hid hpp
          have yc0 : ∀ w', Grows V w' → w'.cell? ⟨w20.heap.size, 0, none⟩ = some (.int .i64 y.kind) := fun w' hg => (hg.whole HX8.out).cell 0
          have yc1 : ∀ w', Grows V w' → w'.cell? ⟨w20.heap.size, 1, none⟩ = some (.string ⟨y.key.toArray⟩) := fun w' hg => (hg.whole HX8.out).cell 1
          have yc2 : ∀ w', Grows V w' → w'.cell? ⟨w20.heap.size, 2, none⟩ = some (.int .i64 y.id) := fun w' hg => (hg.whole HX8.out).cell 2
          have yc3 : ∀ w', Grows V w' → w'.cell? ⟨w20.heap.size, 3, none⟩ = some (.int .i64 y.no) := fun w' hg => (hg.whole HX8.out).cell 3
          have yc4 : ∀ w', Grows V w' → w'.cell? ⟨w20.heap.size, 4, none⟩ = some (.int .i64 y.size) := fun w' hg => (hg.whole HX8.out).cell 4
          have yc5 : ∀ w', Grows V w' → w'.cell? ⟨w20.heap.size, 5, none⟩ = some (.slice LY lyn lyc) := fun w' hg => (hg.whole HX8.out).cell 5
          have yc6 : ∀ w', Grows V w' → w'.cell? ⟨w20.heap.size, 6, none⟩ = some (.slice BY byn byc) := fun w' hg => (hg.whole HX8.out).cell 6
          clear hb20 k20 hy hx8 hpp hry hpy
          go_wp2_with (fail)
          try rw [hV]
          refine wp_region_facts (E := Grows) [valFact (.bool true), valFact (.bool true), valFact (.agg #[.int .i64 y.kind, .string ⟨y.key.toArray⟩, .int .i64 y.id, .int .i64 y.no, .int .i64 y.size, .slice LY lyn lyc, .slice BY byn byc]), valFact (.bool true), valFact (.bool true), valFact (.bool true), valFact (.agg #[.int .i64 y.kind, .string ⟨y.key.toArray⟩, .int .i64 y.id, .int .i64 y.no, .int .i64 y.size, .slice LY lyn lyc, .slice BY byn byc]), slFact (xs), valFact (.string ⟨xs.toArray⟩), valFact (.slice A n c), valFact (.string ⟨xs.toArray⟩), valFact (.bool true), valFact (.bool true), valFact (.bool true)] (by kernel_rfl) (by kernel_rfl) (fun _ _ _ => Grows.trans) (grows_drew _) ?_
          refine f_val (.bool true) (by rfl) ?_ ?_
          · intro w' hC; clear hC; go_simp
          simp only [Act.put, List.setIfInBounds_toArray, List.set_cons_zero, List.set_cons_succ]
          refine f_val (.bool true) (by rfl) ?_ ?_
          · intro w' hC; clear hC; go_simp
          simp only [Act.put, List.setIfInBounds_toArray, List.set_cons_zero, List.set_cons_succ]
          refine f_known (.agg #[.int .i64 y.kind, .string ⟨y.key.toArray⟩, .int .i64 y.id, .int .i64 y.no, .int .i64 y.size, .slice LY lyn lyc, .slice BY byn byc]) (by rfl) ?_ ?_
          · intro w' hC _; go_simp
          simp only [Act.put, List.setIfInBounds_toArray, List.set_cons_zero, List.set_cons_succ]
          refine f_call 16 #[.agg #[.int .i64 y.kind, .string ⟨y.key.toArray⟩, .int .i64 y.id, .int .i64 y.no, .int .i64 y.size, .slice LY lyn lyc, .slice BY byn byc]] (.bool true) (by rfl) (by intro w' hC; clear hC; go_simp) ?_ ?_
          · intro w' hC _; exact (HRY.out w' hC).mono fun e w'' h => ⟨h.1, h.2⟩
          simp only [Act.put, List.setIfInBounds_toArray, List.set_cons_zero, List.set_cons_succ]
          refine f_val (.bool true) (by rfl) ?_ ?_
          · intro w' hC; clear hC; go_simp
          simp only [Act.put, List.setIfInBounds_toArray, List.set_cons_zero, List.set_cons_succ]
          refine f_val (.bool true) (by rfl) ?_ ?_
          · intro w' hC; clear hC; go_simp
          simp only [Act.put, List.setIfInBounds_toArray, List.set_cons_zero, List.set_cons_succ]
          refine f_known (.agg #[.int .i64 y.kind, .string ⟨y.key.toArray⟩, .int .i64 y.id, .int .i64 y.no, .int .i64 y.size, .slice LY lyn lyc, .slice BY byn byc]) (by rfl) ?_ ?_
          · intro w' hC _; go_simp
          simp only [Act.put, List.setIfInBounds_toArray, List.set_cons_zero, List.set_cons_succ]
          refine f_new (xs) 18 #[.agg #[.int .i64 y.kind, .string ⟨y.key.toArray⟩, .int .i64 y.id, .int .i64 y.no, .int .i64 y.size, .slice LY lyn lyc, .slice BY byn byc]] (by rfl) (by intro w' hC; clear hC; go_simp) ?_ ?_
          · intro w' hC _; exact (HPY.out w' hC)
          intro A20 c20
          simp only [Act.put, List.setIfInBounds_toArray, List.set_cons_zero, List.set_cons_succ]
          refine f_known (.string ⟨xs.toArray⟩) (by rfl) ?_ ?_
          · intro w' hC hk; exact run_op_string rfl rfl (Known.get hk 0 rfl (by rfl))
          simp only [Act.put, List.setIfInBounds_toArray, List.set_cons_zero, List.set_cons_succ]
          refine f_val (.slice A n c) (by rfl) ?_ ?_
          · intro w' hC; clear hC; go_simp
          simp only [Act.put, List.setIfInBounds_toArray, List.set_cons_zero, List.set_cons_succ]
          refine f_known (.string ⟨xs.toArray⟩) (by rfl) ?_ ?_
          · intro w' hC _; exact run_op_string rfl rfl (HB8.out.grow hC)
          simp only [Act.put, List.setIfInBounds_toArray, List.set_cons_zero, List.set_cons_succ]
          refine f_val (.bool true) (by rfl) ?_ ?_
          · intro w' hC; clear hC; go_simp
          simp only [Act.put, List.setIfInBounds_toArray, List.set_cons_zero, List.set_cons_succ]
          refine f_val (.bool true) (by rfl) ?_ ?_
          · intro w' hC; clear hC; go_simp
          simp only [Act.put, List.setIfInBounds_toArray, List.set_cons_zero, List.set_cons_succ]
          refine f_val (.bool true) (by rfl) ?_ ?_
          · intro w' hC; clear hC; go_simp
          simp only [Act.put, List.setIfInBounds_toArray, List.set_cons_zero, List.set_cons_succ]
          intro w21 hC _
          have HCw21 := Lib.hid hC
          clear hC
          go_wp2_with (fail)
          go_ret
          exact ⟨rfl, Grows.trans HG20.out HCw21.out⟩

set_option maxRecDepth 100000 in
theorem recBack_lifted (os : Os) (started : os.Started) (H : Type) (enc : TypeId × Value → H) :
    ReturnsInHanded {} Try.checked os 4 .any (Rows.recBackSpec.pre6 enc Try.prog Try.f4 Rows.recBackRow.domain false) (Rows.recBackSpec.post enc Try.prog Try.f4 false true false false) := by
  refine lift_law (C := Try.checked) H enc own started (by kernel_rfl) Try.func4
    (ChangeSpec.witness6 (enc := enc) (C := Try.checked) false ⟨#[], #[.agg #[.int .i64 0, .string ⟨#[]⟩, .int .i64 0, .int .i64 0, .int .i64 0, .slice none 0 0, .slice none 0 0], .slice none 0 0], []⟩ 16 (by kernel_rfl) (by kernel_rfl) (by kernel_rfl) (by kernel_rfl))
    laidOut (of_readable (by kernel_rfl)) rfl Try.underlying4 rfl (fun ds hd => ?_) (fun W base args ds p hval hA hsz => ?_)
  · match ds, hd with
    | [d1, d2], _ => rfl
  · rw [Try.params4] at hA hval hsz
    obtain ⟨v0, vs0, d0, ds0, p0, q0, hargs, rfl, rfl, h0, r0⟩ := trodAll_cons hA
    obtain ⟨v1, vs1, d1, ds1, p1, q1, rfl, rfl, rfl, h1, r1⟩ := trodAll_cons r0
    obtain ⟨rfl, rfl, rfl⟩ := trodAll_nil r1
    obtain rfl : args = #[v0, v1] := by cases args; simp_all
    obtain ⟨x0, LA0, ln0, lc0, BA0, bn0, bc0, rfl, hx0⟩ := open_rec (hval 0 25 v0 rfl rfl) h0
    obtain ⟨kd0, ks0, id0, no0, size0, ls0, bs0⟩ := x0
    obtain ⟨A1, n1, c1, xs1, rfl, hx1⟩ := open_bytes Try.underlying23 Try.underlying5 (by kernel_rfl) (by kernel_rfl) (hval 1 23 v1 rfl rfl) h1 hsz (j := 1) rfl rfl
    exact recBack_law kd0 ks0 id0 no0 size0 LA0 ln0 lc0 BA0 bn0 bc0 ls0 bs0 hx0 A1 n1 c1 xs1 hx1

theorem recBack_over : Rows.recBackRow.holds Try.pinned (OpenSpec.ofChange Rows.recBackSpec) :=
  OpenClaim.holds_of_wide 4 Try.f4 rfl rfl rfl rfl rfl rfl rfl ⟨rfl, rfl, rfl, rfl, rfl⟩ rfl rfl rfl rfl rfl (by kernel_rfl) Try.func4 (by kernel_rfl)
    (of_decide_eq_true (by kernel_rfl)) (by unfold Func.isWrapper; first | (rw [if_pos (by decide +kernel)]; kernel_rfl) | (rw [if_neg (by decide +kernel)]; exact ⟨rfl, rfl⟩))
    (fun os started H enc _ => recBack_lifted os started H enc)
theorem recBack_holds : Rows.RecBackSaid := recBack_over
end Go.Proofs.Ytmfhpfehphbklaa
