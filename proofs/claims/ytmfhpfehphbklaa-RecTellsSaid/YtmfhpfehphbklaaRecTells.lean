/-
  RecTells holds of any record, bytes and text: Right, Put, Get and Key tell what the document's answer tells; no condition.
-/
import Derived.Test.YtmfhpfehphbklaaRcHead
import Derived.Test.YtmfhpfehphbklaaRcIn
import Derived.Test.YtmfhpfehphbklaaRcRefGetAny
import Derived.Test.YtmfhpfehphbklaaRcWithin
import Derived.Test.YtmfhpfehphbklaaRcSame
import Derived.ProofKit
import Derived.ChangeOld
import Derived.ChangeMaps5
namespace Go.Proofs.Ytmfhpfehphbklaa
open Go.ChangeShapes Go.WideShapes Go.ChangeAt Go.RowKit
set_option linter.unusedSimpArgs false
set_option linter.unusedVariables false


/-- What is got has not too many places. -/
theorem got_few (xs : List UInt8) : ((getR xs).getD Rc.none).locs.length ≤ 1000000 := by
  cases hgx : getR xs with
  | none => simp [Rc.none]
  | some y =>
    have hr := (put_get hgx).1
    simp only [Option.getD_some]
    unfold RightR PieceOk RootOk InlineOk TombOk Bare LocsOk at hr
    omega
set_option maxRecDepth 100000 in
set_option maxHeartbeats 8000000 in
theorem recTells_law {w : World} (kd : Int) (ks : List UInt8) (id no size : Int) (LA : Option Addr) (ln lc : Nat) (BA : Option Addr) (bn bc : Nat) (ls : List Lc) (bs : List UInt8) (hin : RcIn w LA ln lc BA bn bc (⟨kd, ks, id, no, size, ls, bs⟩ : Rc)) (A : Option Addr) (n c : Nat) (xs : List UInt8) (hcame : Came w A n c xs) (s : ByteArray) :
    Calls Try.prog 3 #[.agg #[.int .i64 kd, .string ⟨ks.toArray⟩, .int .i64 id, .int .i64 no, .int .i64 size, .slice LA ln lc, .slice BA bn bc], .slice A n c, .string s] w fun e w' => e = .returned (.bool true) ∧ Below w.heap.size w w' := by
  have hreach := hcame.reach
  have hcap := hcame.cap
  have HB := Lib.hid hcame.sl
  have HI := Lib.hid hin
  have HZ0 := Lib.hid (Whole.made w 25 #[.int .i64 kd, .string ⟨ks.toArray⟩, .int .i64 id, .int .i64 no, .int .i64 size, .slice LA ln lc, .slice BA bn bc])
  have HG0 := Lib.hid (grows_alloc w (.cells #[.int .i64 kd, .string ⟨ks.toArray⟩, .int .i64 id, .int .i64 no, .int .i64 size, .slice LA ln lc, .slice BA bn bc] 25))
  clear hin hcame
  go_enter Try.func3, Try.ntmps3
  go_wp2_with (fail)
  refine (head_any _).mono ?_
  rintro e w1 ⟨rfl, hb⟩
  have hz := Grows.whole hb HZ0.out
  have c0 := hz.cell 0
  have c1 := hz.cell 1
  have c2 := hz.cell 2
  have c3 := hz.cell 3
  have c4 := hz.cell 4
  have c5 := hz.cell 5
  have c6 := hz.cell 6
  simp only [List.getElem?_toArray, List.getElem?_cons_zero, List.getElem?_cons_succ] at c0 c1 c2 c3 c4 c5 c6
  have HZ1 := Lib.hid hz
  have HG1 := Lib.hid (Grows.trans HG0.out hb)
  clear hb hz HZ0 
  go_wp2_with (fail)
  clear c0 c1 c2 c3 c4 c5 c6
  refine (great_any _ _ _ _ _ _ _ _ _ _ _ _).mono ?_
  rintro e w2 ⟨⟨g, rfl⟩, hb⟩
  have hz := Grows.whole hb HZ1.out
  have c0 := hz.cell 0
  have c1 := hz.cell 1
  have c2 := hz.cell 2
  have c3 := hz.cell 3
  have c4 := hz.cell 4
  have c5 := hz.cell 5
  have c6 := hz.cell 6
  simp only [List.getElem?_toArray, List.getElem?_cons_zero, List.getElem?_cons_succ] at c0 c1 c2 c3 c4 c5 c6
  have HZ2 := Lib.hid hz
  have HG2 := Lib.hid (Grows.trans HG1.out hb)
  clear hb hz HZ1 
  cases g with
  | true =>
    go_wp2_with (fail)
    go_ret
    exact ⟨rfl, HG2.out⟩
  | false =>
    by_cases hn2 : 20000 < n
    · have hn3 : (20000 : Int) < (n : Int) := by omega
      go_wp2_with (fail)
      go_ret
      exact ⟨rfl, HG2.out⟩
    have hn3 : ¬ (20000 : Int) < (n : Int) := by omega
    by_cases hs2 : 20000 < s.size
    · have hs3 : (20000 : Int) < (s.size : Int) := by omega
      go_wp2_with (fail)
      go_ret
      exact ⟨rfl, HG2.out⟩
    · have hs3 : ¬ (20000 : Int) < (s.size : Int) := by omega
      have hfew := got_few xs
      obtain ⟨Y, hY⟩ : ∃ Y, (getR xs).getD Rc.none = Y := ⟨_, rfl⟩
      obtain ⟨ok, hok⟩ : ∃ b, (getR xs).isSome = b := ⟨_, rfl⟩
      rw [hY] at hfew
      obtain ⟨kd2, ks2, id2, no2, size2, ls2, bs2⟩ := Y
      have HFEW := Lib.hid hfew
      have HYO := Lib.hid (And.intro hY hok)
      clear hfew hY hok
      go_wp2_with (fail)
      clear c0 c1 c2 c3 c4 c5 c6
      have hq := get_any A n c xs w2 (HB.out.grow HG2.out) (by omega)
      rw [HYO.out.1, HYO.out.2] at hq
      dsimp only at hq
      refine hq.mono ?_
      clear hq
      rintro e w3 ⟨LX, lxn, lxc, BX, bxn, bxc, rfl, hx, hb3⟩
      have k3 := grows_alloc w3 (.cells #[.int .i64 kd2, .string ⟨ks2.toArray⟩, .int .i64 id2, .int .i64 no2, .int .i64 size2, .slice LX lxn lxc, .slice BX bxn bxc] 25)
      obtain ⟨V3, hV3⟩ : ∃ V, w3.alloc (.cells #[.int .i64 kd2, .string ⟨ks2.toArray⟩, .int .i64 id2, .int .i64 no2, .int .i64 size2, .slice LX lxn lxc, .slice BX bxn bxc] 25) = V := ⟨_, rfl⟩
      have HX3 := Lib.hid (Whole.made w3 25 #[.int .i64 kd2, .string ⟨ks2.toArray⟩, .int .i64 id2, .int .i64 no2, .int .i64 size2, .slice LX lxn lxc, .slice BX bxn bxc])
      have HXI := Lib.hid (hx.inn.grow k3)
      have HXL := Lib.hid hx.len
      have HG3 := Lib.hid (Grows.trans HG2.out (Grows.trans hb3 k3))
      have HZ3 := Lib.hid (Grows.whole (Grows.trans hb3 k3) HZ2.out)
      rw [hV3] at HX3 HXI HG3 HZ3
      clear hx hb3 k3
      go_wp2_with (fail)
      try rw [hV3]
      have hq := refGet_any A n c xs V3 (HB.out.grow HG3.out)
      rw [HYO.out.1, HYO.out.2] at hq
      dsimp only at hq
      refine hq.mono ?_
      clear hq
      rintro e w4 ⟨LY, lyn, lyc, BY, byn, byc, rfl, hy, hb4⟩
      have k4 := grows_alloc w4 (.cells #[.int .i64 kd2, .string ⟨ks2.toArray⟩, .int .i64 id2, .int .i64 no2, .int .i64 size2, .slice LY lyn lyc, .slice BY byn byc] 25)
      obtain ⟨V4, hV4⟩ : ∃ V, w4.alloc (.cells #[.int .i64 kd2, .string ⟨ks2.toArray⟩, .int .i64 id2, .int .i64 no2, .int .i64 size2, .slice LY lyn lyc, .slice BY byn byc] 25) = V := ⟨_, rfl⟩
      have HX4 := Lib.hid (Grows.whole (Grows.trans hb4 k4) HX3.out)
      have HY4 := Lib.hid (Whole.made w4 25 #[.int .i64 kd2, .string ⟨ks2.toArray⟩, .int .i64 id2, .int .i64 no2, .int .i64 size2, .slice LY lyn lyc, .slice BY byn byc])
      have HYI := Lib.hid (hy.inn.grow k4)
      have HXI4 := Lib.hid (HXI.out.grow (Grows.trans hb4 k4))
      have HG4 := Lib.hid (Grows.trans HG3.out (Grows.trans hb4 k4))
      have HZ4 := Lib.hid (Grows.whole (Grows.trans hb4 k4) HZ3.out)
      rw [hV4] at HX4 HY4 HYI HXI4 HG4 HZ4
      have HI4 := Lib.hid (HI.out.grow HG4.out)
      obtain ⟨rr, hrr⟩ : ∃ b, decide (RightR (⟨kd, ks, id, no, size, ls, bs⟩ : Rc)) = b := ⟨_, rfl⟩
      obtain ⟨PB, hPB⟩ : ∃ b, putR (⟨kd, ks, id, no, size, ls, bs⟩ : Rc) = b := ⟨_, rfl⟩
      obtain ⟨kk, hkk⟩ : ∃ b, decide (1 ≤ s.size ∧ s.size ≤ 64) = b := ⟨_, rfl⟩
      have HR1 : Hid (∀ w', Grows V4 w' → Calls Try.prog 16 #[.agg #[.int .i64 kd, .string ⟨ks.toArray⟩, .int .i64 id, .int .i64 no, .int .i64 size, .slice LA ln lc, .slice BA bn bc]] w' fun e w'' => e = .returned (.bool rr) ∧ Grows w' w'') := Lib.hid fun w' hg => (rcright_any (⟨kd, ks, id, no, size, ls, bs⟩ : Rc) LA ln lc BA bn bc w' (HI4.out.grow hg)).mono fun e w'' h => ⟨by rw [← hrr]; exact h.1, h.2⟩
      have HR2 : Hid (∀ w', Grows V4 w' → Calls Try.prog 17 #[.agg #[.int .i64 kd, .string ⟨ks.toArray⟩, .int .i64 id, .int .i64 no, .int .i64 size, .slice LA ln lc, .slice BA bn bc]] w' fun e w'' => e = .returned (.bool rr) ∧ Grows w' w'') := Lib.hid fun w' hg => (refRight_one kd ks id no size LA ln lc BA bn bc ls bs w' (HI4.out.grow hg)).mono fun e w'' h => ⟨by rw [← hrr]; exact h.1, h.2⟩
      have HP1 : Hid (∀ w', Grows V4 w' → Calls Try.prog 18 #[.agg #[.int .i64 kd, .string ⟨ks.toArray⟩, .int .i64 id, .int .i64 no, .int .i64 size, .slice LA ln lc, .slice BA bn bc]] w' fun e w'' => ∃ A m c, e = .returned (.slice A m c) ∧ Sl w'' A m c PB ∧ Below w'.heap.size w' w'') := Lib.hid fun w' hg => (put_own (⟨kd, ks, id, no, size, ls, bs⟩ : Rc) LA ln lc BA bn bc w' (HI4.out.grow hg)).mono fun e w'' ⟨A', m', c', he, ho, hb⟩ => ⟨A', m', c', he, by rw [hPB] at ho; exact Sl.owned ho, hb⟩
      have HP2 : Hid (∀ w', Grows V4 w' → Calls Try.prog 19 #[.agg #[.int .i64 kd, .string ⟨ks.toArray⟩, .int .i64 id, .int .i64 no, .int .i64 size, .slice LA ln lc, .slice BA bn bc]] w' fun e w'' => ∃ A m c, e = .returned (.slice A m c) ∧ Sl w'' A m c PB ∧ Below w'.heap.size w' w'') := Lib.hid fun w' hg => (refPut_own ks kd id no size LA ln lc BA bn bc ls bs w' (HI4.out.grow hg)).mono fun e w'' ⟨A', m', c', he, ho, hb⟩ => ⟨A', m', c', he, by rw [hPB] at ho; exact Sl.owned ho, hb⟩
      have HSM : Hid (∀ w', Grows V4 w' → Calls Try.prog 20 #[.agg #[.int .i64 kd2, .string ⟨ks2.toArray⟩, .int .i64 id2, .int .i64 no2, .int .i64 size2, .slice LX lxn lxc, .slice BX bxn bxc], .agg #[.int .i64 kd2, .string ⟨ks2.toArray⟩, .int .i64 id2, .int .i64 no2, .int .i64 size2, .slice LY lyn lyc, .slice BY byn byc]] w' fun e w'' => e = .returned (.bool true) ∧ Grows w' w'') := Lib.hid fun w' hg => (same_any (⟨kd2, ks2, id2, no2, size2, ls2, bs2⟩ : Rc) (⟨kd2, ks2, id2, no2, size2, ls2, bs2⟩ : Rc) LX lxn lxc BX bxn bxc LY lyn lyc BY byn byc w' (HXI4.out.grow hg) (HYI.out.grow hg) (by
        have h1 := HXL.out
        have h2 := HFEW.out
        try dsimp only at h1
        try dsimp only at h2
        omega)).mono fun e w'' h => ⟨by rw [h.1]; simp, h.2⟩
      have HK1 : Hid (∀ w', Grows V4 w' → Calls Try.prog 21 #[.string s] w' fun e w'' => e = .returned (.bool kk) ∧ Grows w' w'') := Lib.hid fun w' hg => (key_any s w').mono fun e w'' h => ⟨by rw [← hkk]; exact h.1, h.2⟩
      have HK2 : Hid (∀ w', Grows V4 w' → Calls Try.prog 22 #[.string s] w' fun e w'' => e = .returned (.bool kk) ∧ Grows w' w'') := Lib.hid fun w' hg => (refKey_any s w').mono fun e w'' h => ⟨by rw [← hkk]; exact h.1, h.2⟩
      have zc0 : ∀ w', Grows V4 w' → w'.cell? ⟨w.heap.size, 0, none⟩ = some (.int .i64 kd) := fun w' hg => (hg.whole HZ4.out).cell 0
      have zc1 : ∀ w', Grows V4 w' → w'.cell? ⟨w.heap.size, 1, none⟩ = some (.string ⟨ks.toArray⟩) := fun w' hg => (hg.whole HZ4.out).cell 1
      have zc2 : ∀ w', Grows V4 w' → w'.cell? ⟨w.heap.size, 2, none⟩ = some (.int .i64 id) := fun w' hg => (hg.whole HZ4.out).cell 2
      have zc3 : ∀ w', Grows V4 w' → w'.cell? ⟨w.heap.size, 3, none⟩ = some (.int .i64 no) := fun w' hg => (hg.whole HZ4.out).cell 3
      have zc4 : ∀ w', Grows V4 w' → w'.cell? ⟨w.heap.size, 4, none⟩ = some (.int .i64 size) := fun w' hg => (hg.whole HZ4.out).cell 4
      have zc5 : ∀ w', Grows V4 w' → w'.cell? ⟨w.heap.size, 5, none⟩ = some (.slice LA ln lc) := fun w' hg => (hg.whole HZ4.out).cell 5
      have zc6 : ∀ w', Grows V4 w' → w'.cell? ⟨w.heap.size, 6, none⟩ = some (.slice BA bn bc) := fun w' hg => (hg.whole HZ4.out).cell 6
      have xc0 : ∀ w', Grows V4 w' → w'.cell? ⟨w3.heap.size, 0, none⟩ = some (.int .i64 kd2) := fun w' hg => (hg.whole HX4.out).cell 0
      have xc1 : ∀ w', Grows V4 w' → w'.cell? ⟨w3.heap.size, 1, none⟩ = some (.string ⟨ks2.toArray⟩) := fun w' hg => (hg.whole HX4.out).cell 1
      have xc2 : ∀ w', Grows V4 w' → w'.cell? ⟨w3.heap.size, 2, none⟩ = some (.int .i64 id2) := fun w' hg => (hg.whole HX4.out).cell 2
      have xc3 : ∀ w', Grows V4 w' → w'.cell? ⟨w3.heap.size, 3, none⟩ = some (.int .i64 no2) := fun w' hg => (hg.whole HX4.out).cell 3
      have xc4 : ∀ w', Grows V4 w' → w'.cell? ⟨w3.heap.size, 4, none⟩ = some (.int .i64 size2) := fun w' hg => (hg.whole HX4.out).cell 4
      have xc5 : ∀ w', Grows V4 w' → w'.cell? ⟨w3.heap.size, 5, none⟩ = some (.slice LX lxn lxc) := fun w' hg => (hg.whole HX4.out).cell 5
      have xc6 : ∀ w', Grows V4 w' → w'.cell? ⟨w3.heap.size, 6, none⟩ = some (.slice BX bxn bxc) := fun w' hg => (hg.whole HX4.out).cell 6
      have yc0 : ∀ w', Grows V4 w' → w'.cell? ⟨w4.heap.size, 0, none⟩ = some (.int .i64 kd2) := fun w' hg => (hg.whole HY4.out).cell 0
      have yc1 : ∀ w', Grows V4 w' → w'.cell? ⟨w4.heap.size, 1, none⟩ = some (.string ⟨ks2.toArray⟩) := fun w' hg => (hg.whole HY4.out).cell 1
      have yc2 : ∀ w', Grows V4 w' → w'.cell? ⟨w4.heap.size, 2, none⟩ = some (.int .i64 id2) := fun w' hg => (hg.whole HY4.out).cell 2
      have yc3 : ∀ w', Grows V4 w' → w'.cell? ⟨w4.heap.size, 3, none⟩ = some (.int .i64 no2) := fun w' hg => (hg.whole HY4.out).cell 3
      have yc4 : ∀ w', Grows V4 w' → w'.cell? ⟨w4.heap.size, 4, none⟩ = some (.int .i64 size2) := fun w' hg => (hg.whole HY4.out).cell 4
      have yc5 : ∀ w', Grows V4 w' → w'.cell? ⟨w4.heap.size, 5, none⟩ = some (.slice LY lyn lyc) := fun w' hg => (hg.whole HY4.out).cell 5
      have yc6 : ∀ w', Grows V4 w' → w'.cell? ⟨w4.heap.size, 6, none⟩ = some (.slice BY byn byc) := fun w' hg => (hg.whole HY4.out).cell 6
      clear hrr hPB hkk hy hb4 k4 hs2 hn2
      go_wp2_with (fail)
      try rw [hV4]
      refine wp_region_facts (E := Grows) [valFact (.bool true), valFact (.bool true), valFact (.agg #[.int .i64 kd, .string ⟨ks.toArray⟩, .int .i64 id, .int .i64 no, .int .i64 size, .slice LA ln lc, .slice BA bn bc]), valFact (.bool rr), valFact (.agg #[.int .i64 kd, .string ⟨ks.toArray⟩, .int .i64 id, .int .i64 no, .int .i64 size, .slice LA ln lc, .slice BA bn bc]), valFact (.bool rr), valFact (.bool true), valFact (.bool true), valFact (.bool true), valFact (.agg #[.int .i64 kd, .string ⟨ks.toArray⟩, .int .i64 id, .int .i64 no, .int .i64 size, .slice LA ln lc, .slice BA bn bc]), slFact (PB), valFact (.string ⟨PB.toArray⟩), valFact (.agg #[.int .i64 kd, .string ⟨ks.toArray⟩, .int .i64 id, .int .i64 no, .int .i64 size, .slice LA ln lc, .slice BA bn bc]), slFact (PB), valFact (.string ⟨PB.toArray⟩), valFact (.bool true), valFact (.bool true), valFact (.bool true), valFact (.agg #[.int .i64 kd2, .string ⟨ks2.toArray⟩, .int .i64 id2, .int .i64 no2, .int .i64 size2, .slice LX lxn lxc, .slice BX bxn bxc]), valFact (.agg #[.int .i64 kd2, .string ⟨ks2.toArray⟩, .int .i64 id2, .int .i64 no2, .int .i64 size2, .slice LY lyn lyc, .slice BY byn byc]), valFact (.bool true), valFact (.bool true), valFact (.bool true), valFact (.bool ok), valFact (.bool ok), valFact (.bool true), valFact (.bool true), valFact (.bool true), valFact (.string s), valFact (.bool kk), valFact (.string s), valFact (.bool kk), valFact (.bool true), valFact (.bool true), valFact (.bool true)] (by kernel_rfl) (by kernel_rfl) (fun _ _ _ => Grows.trans) (grows_drew _) ?_
      refine f_val (.bool true) (by rfl) ?_ ?_
      · intro w' hC; clear hC; go_simp
      simp only [Act.put, List.setIfInBounds_toArray, List.set_cons_zero, List.set_cons_succ]
      refine f_val (.bool true) (by rfl) ?_ ?_
      · intro w' hC; clear hC; go_simp
      simp only [Act.put, List.setIfInBounds_toArray, List.set_cons_zero, List.set_cons_succ]
      refine f_known (.agg #[.int .i64 kd, .string ⟨ks.toArray⟩, .int .i64 id, .int .i64 no, .int .i64 size, .slice LA ln lc, .slice BA bn bc]) (by rfl) ?_ ?_
      · intro w' hC _; go_simp
      simp only [Act.put, List.setIfInBounds_toArray, List.set_cons_zero, List.set_cons_succ]
      refine f_call 16 #[.agg #[.int .i64 kd, .string ⟨ks.toArray⟩, .int .i64 id, .int .i64 no, .int .i64 size, .slice LA ln lc, .slice BA bn bc]] (.bool rr) (by rfl) (by intro w' hC; clear hC; go_simp) ?_ ?_
      · intro w' hC _; exact HR1.out w' hC
      simp only [Act.put, List.setIfInBounds_toArray, List.set_cons_zero, List.set_cons_succ]
      refine f_known (.agg #[.int .i64 kd, .string ⟨ks.toArray⟩, .int .i64 id, .int .i64 no, .int .i64 size, .slice LA ln lc, .slice BA bn bc]) (by rfl) ?_ ?_
      · intro w' hC _; go_simp
      simp only [Act.put, List.setIfInBounds_toArray, List.set_cons_zero, List.set_cons_succ]
      refine f_call 17 #[.agg #[.int .i64 kd, .string ⟨ks.toArray⟩, .int .i64 id, .int .i64 no, .int .i64 size, .slice LA ln lc, .slice BA bn bc]] (.bool rr) (by rfl) (by intro w' hC; clear hC; go_simp) ?_ ?_
      · intro w' hC _; exact HR2.out w' hC
      simp only [Act.put, List.setIfInBounds_toArray, List.set_cons_zero, List.set_cons_succ]
      refine f_val (.bool true) (by rfl) ?_ ?_
      · intro w' hC; clear hC; go_simp
      simp only [Act.put, List.setIfInBounds_toArray, List.set_cons_zero, List.set_cons_succ]
      refine f_val (.bool true) (by rfl) ?_ ?_
      · intro w' hC; clear hC; go_simp
      simp only [Act.put, List.setIfInBounds_toArray, List.set_cons_zero, List.set_cons_succ]
      refine f_val (.bool true) (by rfl) ?_ ?_
      · intro w' hC; clear hC; go_simp
      simp only [Act.put, List.setIfInBounds_toArray, List.set_cons_zero, List.set_cons_succ]
      refine f_known (.agg #[.int .i64 kd, .string ⟨ks.toArray⟩, .int .i64 id, .int .i64 no, .int .i64 size, .slice LA ln lc, .slice BA bn bc]) (by rfl) ?_ ?_
      · intro w' hC _; go_simp
      simp only [Act.put, List.setIfInBounds_toArray, List.set_cons_zero, List.set_cons_succ]
      refine f_new (PB) 18 #[.agg #[.int .i64 kd, .string ⟨ks.toArray⟩, .int .i64 id, .int .i64 no, .int .i64 size, .slice LA ln lc, .slice BA bn bc]] (by rfl) (by intro w' hC; clear hC; go_simp) ?_ ?_
      · intro w' hC _; exact HP1.out w' hC
      intro A20 c20
      simp only [Act.put, List.setIfInBounds_toArray, List.set_cons_zero, List.set_cons_succ]
      refine f_known (.string ⟨PB.toArray⟩) (by rfl) ?_ ?_
      · intro w' hC hk; exact run_op_string rfl rfl (Known.get hk 0 rfl (by rfl))
      simp only [Act.put, List.setIfInBounds_toArray, List.set_cons_zero, List.set_cons_succ]
      refine f_known (.agg #[.int .i64 kd, .string ⟨ks.toArray⟩, .int .i64 id, .int .i64 no, .int .i64 size, .slice LA ln lc, .slice BA bn bc]) (by rfl) ?_ ?_
      · intro w' hC _; go_simp
      simp only [Act.put, List.setIfInBounds_toArray, List.set_cons_zero, List.set_cons_succ]
      refine f_new (PB) 19 #[.agg #[.int .i64 kd, .string ⟨ks.toArray⟩, .int .i64 id, .int .i64 no, .int .i64 size, .slice LA ln lc, .slice BA bn bc]] (by rfl) (by intro w' hC; clear hC; go_simp) ?_ ?_
      · intro w' hC _; exact HP2.out w' hC
      intro A21 c21
      simp only [Act.put, List.setIfInBounds_toArray, List.set_cons_zero, List.set_cons_succ]
      refine f_known (.string ⟨PB.toArray⟩) (by rfl) ?_ ?_
      · intro w' hC hk; exact run_op_string rfl rfl (Known.get hk 0 rfl (by rfl))
      simp only [Act.put, List.setIfInBounds_toArray, List.set_cons_zero, List.set_cons_succ]
      refine f_val (.bool true) (by rfl) ?_ ?_
      · intro w' hC; clear hC; go_simp
      simp only [Act.put, List.setIfInBounds_toArray, List.set_cons_zero, List.set_cons_succ]
      refine f_val (.bool true) (by rfl) ?_ ?_
      · intro w' hC; clear hC; go_simp
      simp only [Act.put, List.setIfInBounds_toArray, List.set_cons_zero, List.set_cons_succ]
      refine f_val (.bool true) (by rfl) ?_ ?_
      · intro w' hC; clear hC; go_simp
      simp only [Act.put, List.setIfInBounds_toArray, List.set_cons_zero, List.set_cons_succ]
      refine f_known (.agg #[.int .i64 kd2, .string ⟨ks2.toArray⟩, .int .i64 id2, .int .i64 no2, .int .i64 size2, .slice LX lxn lxc, .slice BX bxn bxc]) (by rfl) ?_ ?_
      · intro w' hC _; go_simp
      simp only [Act.put, List.setIfInBounds_toArray, List.set_cons_zero, List.set_cons_succ]
      refine f_known (.agg #[.int .i64 kd2, .string ⟨ks2.toArray⟩, .int .i64 id2, .int .i64 no2, .int .i64 size2, .slice LY lyn lyc, .slice BY byn byc]) (by rfl) ?_ ?_
      · intro w' hC _; go_simp
      simp only [Act.put, List.setIfInBounds_toArray, List.set_cons_zero, List.set_cons_succ]
      refine f_call 20 #[.agg #[.int .i64 kd2, .string ⟨ks2.toArray⟩, .int .i64 id2, .int .i64 no2, .int .i64 size2, .slice LX lxn lxc, .slice BX bxn bxc], .agg #[.int .i64 kd2, .string ⟨ks2.toArray⟩, .int .i64 id2, .int .i64 no2, .int .i64 size2, .slice LY lyn lyc, .slice BY byn byc]] (.bool true) (by rfl) (by intro w' hC; clear hC; go_simp) ?_ ?_
      · intro w' hC _; exact HSM.out w' hC
      simp only [Act.put, List.setIfInBounds_toArray, List.set_cons_zero, List.set_cons_succ]
      refine f_val (.bool true) (by rfl) ?_ ?_
      · intro w' hC; clear hC; go_simp
      simp only [Act.put, List.setIfInBounds_toArray, List.set_cons_zero, List.set_cons_succ]
      refine f_val (.bool true) (by rfl) ?_ ?_
      · intro w' hC; clear hC; go_simp
      simp only [Act.put, List.setIfInBounds_toArray, List.set_cons_zero, List.set_cons_succ]
      refine f_val (.bool ok) (by rfl) ?_ ?_
      · intro w' hC; clear hC; go_simp
      simp only [Act.put, List.setIfInBounds_toArray, List.set_cons_zero, List.set_cons_succ]
      refine f_val (.bool ok) (by rfl) ?_ ?_
      · intro w' hC; clear hC; go_simp
      simp only [Act.put, List.setIfInBounds_toArray, List.set_cons_zero, List.set_cons_succ]
      refine f_val (.bool true) (by rfl) ?_ ?_
      · intro w' hC; clear hC; go_simp
      simp only [Act.put, List.setIfInBounds_toArray, List.set_cons_zero, List.set_cons_succ]
      refine f_val (.bool true) (by rfl) ?_ ?_
      · intro w' hC; clear hC; go_simp
      simp only [Act.put, List.setIfInBounds_toArray, List.set_cons_zero, List.set_cons_succ]
      refine f_val (.bool true) (by rfl) ?_ ?_
      · intro w' hC; clear hC; go_simp
      simp only [Act.put, List.setIfInBounds_toArray, List.set_cons_zero, List.set_cons_succ]
      refine f_val (.string s) (by rfl) ?_ ?_
      · intro w' hC; clear hC; go_simp
      simp only [Act.put, List.setIfInBounds_toArray, List.set_cons_zero, List.set_cons_succ]
      refine f_call 21 #[.string s] (.bool kk) (by rfl) (by intro w' hC; clear hC; go_simp) ?_ ?_
      · intro w' hC _; exact HK1.out w' hC
      simp only [Act.put, List.setIfInBounds_toArray, List.set_cons_zero, List.set_cons_succ]
      refine f_val (.string s) (by rfl) ?_ ?_
      · intro w' hC; clear hC; go_simp
      simp only [Act.put, List.setIfInBounds_toArray, List.set_cons_zero, List.set_cons_succ]
      refine f_call 22 #[.string s] (.bool kk) (by rfl) (by intro w' hC; clear hC; go_simp) ?_ ?_
      · intro w' hC _; exact HK2.out w' hC
      simp only [Act.put, List.setIfInBounds_toArray, List.set_cons_zero, List.set_cons_succ]
      refine f_val (.bool true) (by rfl) ?_ ?_
      · intro w' hC; clear hC; go_simp
      simp only [Act.put, List.setIfInBounds_toArray, List.set_cons_zero, List.set_cons_succ]
      refine f_val (.bool true) (by rfl) ?_ ?_
      · intro w' hC; clear hC; go_simp
      simp only [Act.put, List.setIfInBounds_toArray, List.set_cons_zero, List.set_cons_succ]
      refine f_val (.bool true) (by rfl) ?_ ?_
      · intro w' hC; clear hC; go_simp
      simp only [Act.put, List.setIfInBounds_toArray, List.set_cons_zero, List.set_cons_succ]
      intro w9 hC _
      have HCw9 := Lib.hid hC
      clear hC
      go_wp2_with (fail)
      go_ret
      exact ⟨rfl, Grows.trans HG4.out HCw9.out⟩

set_option maxRecDepth 100000 in
theorem recTells_lifted (os : Os) (started : os.Started) (H : Type) (enc : TypeId × Value → H) :
    ReturnsInHanded {} Try.checked os 3 .any (Rows.recTellsSpec.pre6 enc Try.prog Try.f3 Rows.recTellsRow.domain false) (Rows.recTellsSpec.post enc Try.prog Try.f3 false true false false) := by
  refine lift_law (C := Try.checked) H enc own started (by kernel_rfl) Try.func3
    (ChangeSpec.witness6 (enc := enc) (C := Try.checked) false ⟨#[], #[.agg #[.int .i64 0, .string ⟨#[]⟩, .int .i64 0, .int .i64 0, .int .i64 0, .slice none 0 0, .slice none 0 0], .slice none 0 0, .string ⟨#[]⟩], []⟩ 16 (by kernel_rfl) (by kernel_rfl) (by kernel_rfl) (by kernel_rfl))
    laidOut (of_readable (by kernel_rfl)) rfl Try.underlying4 rfl (fun ds hd => ?_) (fun W base args ds p hval hA hsz => ?_)
  · match ds, hd with
    | [d1, d2, d3], _ => rfl
  · rw [Try.params3] at hA hval hsz
    obtain ⟨v0, vs0, d0, ds0, p0, q0, hargs, rfl, rfl, h0, r0⟩ := trodAll_cons hA
    obtain ⟨v1, vs1, d1, ds1, p1, q1, rfl, rfl, rfl, h1, r1⟩ := trodAll_cons r0
    obtain ⟨v2, vs2, d2, ds2, p2, q2, rfl, rfl, rfl, h2, r2⟩ := trodAll_cons r1
    obtain ⟨rfl, rfl, rfl⟩ := trodAll_nil r2
    obtain rfl : args = #[v0, v1, v2] := by cases args; simp_all
    obtain ⟨x0, LA0, ln0, lc0, BA0, bn0, bc0, rfl, hx0⟩ := open_rec (hval 0 25 v0 rfl rfl) h0
    obtain ⟨kd0, ks0, id0, no0, size0, ls0, bs0⟩ := x0
    obtain ⟨A1, n1, c1, xs1, rfl, hx1⟩ := open_bytes Try.underlying23 Try.underlying5 (by kernel_rfl) (by kernel_rfl) (hval 1 23 v1 rfl rfl) h1 hsz (j := 1) rfl rfl
    obtain ⟨s2, rfl, _, _, _⟩ := Go.ChangeMaps.open_string Try.underlying9 (hval 2 9 v2 rfl rfl) h2
    exact recTells_law kd0 ks0 id0 no0 size0 LA0 ln0 lc0 BA0 bn0 bc0 ls0 bs0 hx0 A1 n1 c1 xs1 hx1 s2

theorem recTells_over : Rows.recTellsRow.holds Try.pinned (OpenSpec.ofChange Rows.recTellsSpec) :=
  OpenClaim.holds_of_wide 3 Try.f3 rfl rfl rfl rfl rfl rfl rfl ⟨rfl, rfl, rfl, rfl, rfl⟩ rfl rfl rfl rfl rfl (by kernel_rfl) Try.func3 (by kernel_rfl)
    (of_decide_eq_true (by kernel_rfl)) (by unfold Func.isWrapper; first | (rw [if_pos (by decide +kernel)]; kernel_rfl) | (rw [if_neg (by decide +kernel)]; exact ⟨rfl, rfl⟩))
    (fun os started H enc _ => recTells_lifted os started H enc)
theorem recTells_holds : Rows.RecTellsSaid := recTells_over
end Go.Proofs.Ytmfhpfehphbklaa
