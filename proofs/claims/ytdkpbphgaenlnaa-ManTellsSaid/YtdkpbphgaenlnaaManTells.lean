/-
  Statement ManTells: right, bytes and what is got are the document's answer's, for any manifest and any bytes.
-/
import Derived.Test.YtdkpbphgaenlnaaMU
import Derived.Test.YtdkpbphgaenlnaaMV
import Derived.Test.YtdkpbphgaenlnaaCame
import Derived.ProofKit
import Derived.ChangeOld
namespace Go.Proofs.Ytdkpbphgaenlnaa
open Go.ChangeShapes Go.WideShapes Go.ChangeAt Go.RowKit
set_option linter.unusedSimpArgs false
set_option linter.unusedVariables false
attribute [local irreducible] wpF
set_option maxHeartbeats 16000000 in
set_option maxRecDepth 100000 in
theorem manTells_law (w : World) (A0 : Option Addr) (n0 c0 : Nat) (x : Mn) (hx : MnIn w A0 n0 c0 x) (A1 : Option Addr) (n1 c1 : Nat) (bs : List UInt8) (hcb : Came w A1 n1 c1 bs) :
    Calls Try.prog 3 #[.agg #[.slice A0 n0 c0, .int .i64 x.next], .slice A1 n1 c1] w fun e w' => e = .returned (.bool true) ∧ Below w.heap.size w w' := by
  have hg1 := grows_alloc w (.cells #[.slice A0 n0 c0, .int .i64 x.next] 24)
  have hm1 := Whole.made w 24 #[.slice A0 n0 c0, .int .i64 x.next]
  obtain ⟨w1, hw1⟩ : ∃ y, w.alloc (.cells #[.slice A0 n0 c0, .int .i64 x.next] 24) = y := ⟨_, rfl⟩
  rw [hw1] at hg1 hm1
  have HX := Lib.hid (hx.grow hg1)
  have HM := Lib.hid hm1
  have HG := Lib.hid hg1
  have HS := Lib.hid (hcb.sl.grow hg1)
  obtain ⟨nx, hnx⟩ : ∃ nx, x.next = nx := ⟨_, rfl⟩
  rw [hnx] at HM hw1 ⊢
  have HNX := Lib.hid hnx
  clear hx hg1 hm1 hnx hcb
  go_enter Try.func3, Try.ntmps3
  go_wp2_with (fail)
  refine (head10_any w1).mono ?_
  rintro e w2 ⟨rfl, hb2⟩
  have hb2 : Grows w1 w2 := hb2
  have HG2 := Lib.hid (HG.out.trans hb2)
  have hm2 := hb2.whole HM.out
  have q0 := hm2.cell 0
  have q1 := hm2.cell 1
  simp only [List.getElem?_toArray, List.getElem?_cons_zero, List.getElem?_cons_succ] at q0 q1
  have HM2 := Lib.hid hm2
  have HX2 := Lib.hid (HX.out.grow hb2)
  have HS2 := Lib.hid (HS.out.grow hb2)
  clear hb2 hw1 hm2 HX HS HM
  by_cases h30 : n0 ≤ 3000
  rotate_left 1
  · have h30' : (n0 : Int) > 3000 := by omega
    go_wp2_with (fail)
    go_ret
    exact ⟨rfl, HG2.out⟩
  have h30' : ¬ ((n0 : Int) > 3000) := by omega
  by_cases h20 : n1 ≤ 20000
  rotate_left 1
  · have h20' : (n1 : Int) > 20000 := by omega
    go_wp2_with (fail)
    go_ret
    exact ⟨rfl, HG2.out⟩
  have h20' : ¬ ((n1 : Int) > 20000) := by omega
  obtain ⟨o, ho⟩ : ∃ o, getM bs = o := ⟨_, rfl⟩
  have HO := Lib.hid ho
  have hge := mget_any w2 A1 n1 c1 bs HS2.out (by omega)
  rw [ho] at hge
  have HGE := Lib.hid hge
  clear hge
  go_wp2_with (fail)
  refine HGE.out.mono ?_
  clear HGE
  rintro e w3 ⟨A5, k5, c5, rfl, ho3, hg3⟩
  obtain ⟨ny, hny⟩ : ∃ z, (mnOf o).next = z := ⟨_, rfl⟩
  obtain ⟨io, hio⟩ : ∃ z, o.isSome = z := ⟨_, rfl⟩
  rw [hny, hio]
  have ga := grows_alloc w3 (.cells #[.slice A5 k5 c5, .int .i64 ny] 24)
  have hm4 := Whole.made w3 24 #[.slice A5 k5 c5, .int .i64 ny]
  have hi4 := Ints.owned (owned_from (owned_grow ho3 ga) (Nat.zero_le _))
  obtain ⟨w4, hw4⟩ : ∃ z, w3.alloc (.cells #[.slice A5 k5 c5, .int .i64 ny] 24) = z := ⟨_, rfl⟩
  rw [hw4] at ga hm4 hi4
  have hg4 := Grows.trans hg3 ga
  have HI4 := Lib.hid hi4
  have HM4 := Lib.hid hm4
  have HMX4 := Lib.hid (hg4.whole HM2.out)
  have HX4 := Lib.hid (HX2.out.grow hg4)
  have HG4 := Lib.hid (HG2.out.trans hg4)
  have hge := mrefGet_any w4 A1 n1 c1 bs (HS2.out.grow hg4) (by omega)
  rw [ho] at hge
  have HGE := Lib.hid hge
  have HNY := Lib.hid (And.intro hny hio)
  clear hge ho3 hg3 ga hm4 hi4 hg4 ho hny hio q0 q1
  go_wp2_with (fail)
  clear hw4
  refine HGE.out.mono ?_
  clear HGE
  rintro e w5 ⟨A6, k6, c6, rfl, ho5, hg5⟩
  rw [show (mnOf o).next = ny from HNY.out.1, show o.isSome = io from HNY.out.2]
  have ga := grows_alloc w5 (.cells #[.slice A6 k6 c6, .int .i64 ny] 24)
  have hm6 := Whole.made w5 24 #[.slice A6 k6 c6, .int .i64 ny]
  have hi6 := Ints.owned (owned_from (owned_grow ho5 ga) (Nat.zero_le _))
  obtain ⟨w6, hw6⟩ : ∃ z, w5.alloc (.cells #[.slice A6 k6 c6, .int .i64 ny] 24) = z := ⟨_, rfl⟩
  rw [hw6] at ga hm6 hi6
  have hg6 := Grows.trans hg5 ga
  have hx6 := HX4.out.grow hg6
  have h5k : k5 ≤ 1000000000 := by
    rw [← HI4.out.len]
    have h := HO.out
    cases o with
    | none => exact Nat.zero_le _
    | some y => have := rightM_len (put_getM h).1; show y.segs.length ≤ _; omega
  have HRT := Lib.hid (fun w' (hC : Grows w6 w') => by
    have h1 := mright_any w' A0 n0 c0 x (hx6.grow hC)
    have h2 := mrefRight_any w' A0 n0 c0 x (hx6.grow hC) (by omega)
    rw [HNX.out] at h1 h2
    exact And.intro h1 h2)
  have HPT := Lib.hid (fun w' (hC : Grows w6 w') => by
    have h1 := mputs_any w' A0 n0 c0 x (hx6.grow hC)
    have h2 := mrefPut_any w' A0 n0 c0 x (hx6.grow hC) (by omega)
    rw [HNX.out] at h1 h2
    exact And.intro (h1.mono fun _ _ ⟨A', k', c', he, ho', hg'⟩ => (⟨A', k', c', he, Sl.owned ho', hg'⟩ : ∃ A' m' c', _ = Ending.returned (.slice A' m' c') ∧ Sl _ A' m' c' (putM x) ∧ Below w'.heap.size w' _)) (h2.mono fun _ _ ⟨A', k', c', he, ho', hg'⟩ => (⟨A', k', c', he, Sl.owned ho', hg'⟩ : ∃ A' m' c', _ = Ending.returned (.slice A' m' c') ∧ Sl _ A' m' c' (putM x) ∧ Below w'.heap.size w' _)))
  have HSM := Lib.hid (fun w' (hC : Grows w6 w') => by
    have h := msame_any w' A5 k5 c5 (mnOf o) A6 k6 c6 (mnOf o) (HI4.out.grow (hg6.trans hC)) (hi6.grow hC) h5k
    rw [decide_eq_true rfl, HNY.out.1] at h
    exact h)
  have HC := Lib.hid (show ∀ w', Grows w6 w' → (w'.cell? { block := w.heap.size, off := 0 } = some (.slice A0 n0 c0) ∧ w'.cell? { block := w.heap.size, off := 1 } = some (.int .i64 nx)) ∧ (w'.cell? { block := w3.heap.size, off := 0 } = some (.slice A5 k5 c5) ∧ w'.cell? { block := w3.heap.size, off := 1 } = some (.int .i64 ny)) ∧ w'.cell? { block := w5.heap.size, off := 0 } = some (.slice A6 k6 c6) ∧ w'.cell? { block := w5.heap.size, off := 1 } = some (.int .i64 ny) from fun w' hC => by
    have h1 := (hg6.trans hC).whole HMX4.out
    have h2 := (hg6.trans hC).whole HM4.out
    have h3 := hC.whole hm6
    exact ⟨⟨h1.cell 0, h1.cell 1⟩, ⟨h2.cell 0, h2.cell 1⟩, h3.cell 0, h3.cell 1⟩)
  have HG6 := Lib.hid (HG4.out.trans hg6)
  obtain ⟨r, hr⟩ : ∃ r, rightM x = r := ⟨_, rfl⟩
  obtain ⟨pm, hpm⟩ : ∃ pm, putM x = pm := ⟨_, rfl⟩
  rw [hr] at HRT
  rw [hpm] at HPT
  clear ho5 hg5 ga hm6 hi6 hg6 hx6 h5k hr hpm
  go_wp2_with (fail)
  clear hw6
  refine wp_region_facts (E := Grows) [valFact (.bool true), valFact (.bool true), valFact (.agg #[.slice A0 n0 c0, .int .i64 nx]), valFact (.bool r), valFact (.agg #[.slice A0 n0 c0, .int .i64 nx]), valFact (.bool r), valFact (.bool true), valFact (.bool true), valFact (.bool true), valFact (.agg #[.slice A0 n0 c0, .int .i64 nx]), slFact (pm), valFact (.string ⟨pm.toArray⟩), valFact (.agg #[.slice A0 n0 c0, .int .i64 nx]), slFact (pm), valFact (.string ⟨pm.toArray⟩), valFact (.bool true), valFact (.bool true), valFact (.bool true), valFact (.agg #[.slice A5 k5 c5, .int .i64 ny]), valFact (.agg #[.slice A6 k6 c6, .int .i64 ny]), valFact (.bool true), valFact (.bool true), valFact (.bool true), valFact (.bool io), valFact (.bool io), valFact (.bool true), valFact (.bool true), valFact (.bool true)] (by kernel_rfl) (by kernel_rfl) (fun _ _ _ => Grows.trans) (grows_drew _) ?_
  refine f_val (.bool true) (by rfl) ?_ ?_
  · intro w' hC; clear hC; first | (go_simp; done)
  simp only [Act.put, List.setIfInBounds_toArray, List.set_cons_zero, List.set_cons_succ]
  refine f_val (.bool true) (by rfl) ?_ ?_
  · intro w' hC; clear hC; first | (go_simp; done)
  simp only [Act.put, List.setIfInBounds_toArray, List.set_cons_zero, List.set_cons_succ]
  refine f_val (.agg #[.slice A0 n0 c0, .int .i64 nx]) (by rfl) ?_ ?_
  · intro w' hC; obtain ⟨⟨z0, z1⟩, ⟨z2, z3⟩, z4, z5⟩ := HC.out w' hC; clear hC; first | (go_simp; done)
  simp only [Act.put, List.setIfInBounds_toArray, List.set_cons_zero, List.set_cons_succ]
  refine f_call 12 #[.agg #[.slice A0 n0 c0, .int .i64 nx]] (.bool r) (by rfl) (by intro w' hC; clear hC; go_simp) ?_ ?_
  · intro w' hC hks; exact (HRT.out w' hC).1.mono fun e w'' hh => ⟨hh.1, hh.2⟩
  simp only [Act.put, List.setIfInBounds_toArray, List.set_cons_zero, List.set_cons_succ]
  refine f_val (.agg #[.slice A0 n0 c0, .int .i64 nx]) (by rfl) ?_ ?_
  · intro w' hC; obtain ⟨⟨z0, z1⟩, ⟨z2, z3⟩, z4, z5⟩ := HC.out w' hC; clear hC; first | (go_simp; done)
  simp only [Act.put, List.setIfInBounds_toArray, List.set_cons_zero, List.set_cons_succ]
  refine f_call 13 #[.agg #[.slice A0 n0 c0, .int .i64 nx]] (.bool r) (by rfl) (by intro w' hC; clear hC; go_simp) ?_ ?_
  · intro w' hC hks; exact (HRT.out w' hC).2.mono fun e w'' hh => ⟨hh.1, hh.2⟩
  simp only [Act.put, List.setIfInBounds_toArray, List.set_cons_zero, List.set_cons_succ]
  refine f_val (.bool true) (by rfl) ?_ ?_
  · intro w' hC; clear hC; first | (go_simp; done) | (cases r <;> go_simp <;> done) | (cases io <;> go_simp <;> done)
  simp only [Act.put, List.setIfInBounds_toArray, List.set_cons_zero, List.set_cons_succ]
  refine f_val (.bool true) (by rfl) ?_ ?_
  · intro w' hC; clear hC; first | (go_simp; done)
  simp only [Act.put, List.setIfInBounds_toArray, List.set_cons_zero, List.set_cons_succ]
  refine f_val (.bool true) (by rfl) ?_ ?_
  · intro w' hC; clear hC; first | (go_simp; done)
  simp only [Act.put, List.setIfInBounds_toArray, List.set_cons_zero, List.set_cons_succ]
  refine f_val (.agg #[.slice A0 n0 c0, .int .i64 nx]) (by rfl) ?_ ?_
  · intro w' hC; obtain ⟨⟨z0, z1⟩, ⟨z2, z3⟩, z4, z5⟩ := HC.out w' hC; clear hC; first | (go_simp; done)
  simp only [Act.put, List.setIfInBounds_toArray, List.set_cons_zero, List.set_cons_succ]
  refine f_new (pm) 14 #[.agg #[.slice A0 n0 c0, .int .i64 nx]] (by rfl) (by intro w' hC; clear hC; go_simp) ?_ ?_
  · intro w' hC hks; exact (HPT.out w' hC).1
  intro PA pc
  simp only [Act.put, List.setIfInBounds_toArray, List.set_cons_zero, List.set_cons_succ]
  refine f_known (.string ⟨pm.toArray⟩) (by rfl) ?_ ?_
  · intro w' hC hks; exact run_op_string rfl rfl (Known.get hks 0 rfl (by rfl))
  simp only [Act.put, List.setIfInBounds_toArray, List.set_cons_zero, List.set_cons_succ]
  refine f_val (.agg #[.slice A0 n0 c0, .int .i64 nx]) (by rfl) ?_ ?_
  · intro w' hC; obtain ⟨⟨z0, z1⟩, ⟨z2, z3⟩, z4, z5⟩ := HC.out w' hC; clear hC; first | (go_simp; done)
  simp only [Act.put, List.setIfInBounds_toArray, List.set_cons_zero, List.set_cons_succ]
  refine f_new (pm) 15 #[.agg #[.slice A0 n0 c0, .int .i64 nx]] (by rfl) (by intro w' hC; clear hC; go_simp) ?_ ?_
  · intro w' hC hks; exact (HPT.out w' hC).2
  intro QA qc
  simp only [Act.put, List.setIfInBounds_toArray, List.set_cons_zero, List.set_cons_succ]
  refine f_known (.string ⟨pm.toArray⟩) (by rfl) ?_ ?_
  · intro w' hC hks; exact run_op_string rfl rfl (Known.get hks 0 rfl (by rfl))
  simp only [Act.put, List.setIfInBounds_toArray, List.set_cons_zero, List.set_cons_succ]
  refine f_val (.bool true) (by rfl) ?_ ?_
  · intro w' hC; clear hC; first | (go_simp; done)
  simp only [Act.put, List.setIfInBounds_toArray, List.set_cons_zero, List.set_cons_succ]
  refine f_val (.bool true) (by rfl) ?_ ?_
  · intro w' hC; clear hC; first | (go_simp; done)
  simp only [Act.put, List.setIfInBounds_toArray, List.set_cons_zero, List.set_cons_succ]
  refine f_val (.bool true) (by rfl) ?_ ?_
  · intro w' hC; clear hC; first | (go_simp; done)
  simp only [Act.put, List.setIfInBounds_toArray, List.set_cons_zero, List.set_cons_succ]
  refine f_val (.agg #[.slice A5 k5 c5, .int .i64 ny]) (by rfl) ?_ ?_
  · intro w' hC; obtain ⟨⟨z0, z1⟩, ⟨z2, z3⟩, z4, z5⟩ := HC.out w' hC; clear hC; first | (go_simp; done)
  simp only [Act.put, List.setIfInBounds_toArray, List.set_cons_zero, List.set_cons_succ]
  refine f_val (.agg #[.slice A6 k6 c6, .int .i64 ny]) (by rfl) ?_ ?_
  · intro w' hC; obtain ⟨⟨z0, z1⟩, ⟨z2, z3⟩, z4, z5⟩ := HC.out w' hC; clear hC; first | (go_simp; done)
  simp only [Act.put, List.setIfInBounds_toArray, List.set_cons_zero, List.set_cons_succ]
  refine f_call 16 #[.agg #[.slice A5 k5 c5, .int .i64 ny], .agg #[.slice A6 k6 c6, .int .i64 ny]] (.bool true) (by rfl) (by intro w' hC; clear hC; go_simp) ?_ ?_
  · intro w' hC hks; exact (HSM.out w' hC).mono fun e w'' hh => ⟨hh.1, hh.2⟩
  simp only [Act.put, List.setIfInBounds_toArray, List.set_cons_zero, List.set_cons_succ]
  refine f_val (.bool true) (by rfl) ?_ ?_
  · intro w' hC; clear hC; first | (go_simp; done)
  simp only [Act.put, List.setIfInBounds_toArray, List.set_cons_zero, List.set_cons_succ]
  refine f_val (.bool true) (by rfl) ?_ ?_
  · intro w' hC; clear hC; first | (go_simp; done)
  simp only [Act.put, List.setIfInBounds_toArray, List.set_cons_zero, List.set_cons_succ]
  refine f_val (.bool io) (by rfl) ?_ ?_
  · intro w' hC; clear hC; first | (go_simp; done)
  simp only [Act.put, List.setIfInBounds_toArray, List.set_cons_zero, List.set_cons_succ]
  refine f_val (.bool io) (by rfl) ?_ ?_
  · intro w' hC; clear hC; first | (go_simp; done)
  simp only [Act.put, List.setIfInBounds_toArray, List.set_cons_zero, List.set_cons_succ]
  refine f_val (.bool true) (by rfl) ?_ ?_
  · intro w' hC; clear hC; first | (go_simp; done) | (cases r <;> go_simp <;> done) | (cases io <;> go_simp <;> done)
  simp only [Act.put, List.setIfInBounds_toArray, List.set_cons_zero, List.set_cons_succ]
  refine f_val (.bool true) (by rfl) ?_ ?_
  · intro w' hC; clear hC; first | (go_simp; done)
  simp only [Act.put, List.setIfInBounds_toArray, List.set_cons_zero, List.set_cons_succ]
  refine f_val (.bool true) (by rfl) ?_ ?_
  · intro w' hC; clear hC; first | (go_simp; done)
  simp only [Act.put, List.setIfInBounds_toArray, List.set_cons_zero, List.set_cons_succ]
  refine wpF_end ?_
  intro w10 hC hks
  have HCw10 := Lib.hid hC
  clear hC hks
  go_wp2_with (fail)
  go_ret
  exact ⟨rfl, HG6.out.trans HCw10.out⟩

set_option maxRecDepth 100000 in
theorem manTells_lifted (os : Os) (started : os.Started) (H : Type) (enc : TypeId × Value → H) :
    ReturnsInHanded {} Try.checked os 3 .any (Rows.manTellsSpec.pre6 enc Try.prog Try.f3 Rows.manTellsRow.domain false) (Rows.manTellsSpec.post enc Try.prog Try.f3 false true false false) := by
  refine lift_law (C := Try.checked) H enc own started (by kernel_rfl) Try.func3
    (ChangeSpec.witness6 (enc := enc) (C := Try.checked) false ⟨#[], #[.agg #[.slice none 0 0, .int .i64 0], .slice none 0 0], []⟩ 16 (by kernel_rfl) (by kernel_rfl) (by kernel_rfl) (by kernel_rfl))
    laidOut (of_readable (by kernel_rfl)) rfl Try.underlying4 rfl (fun ds hd => ?_) (fun W base args ds p hval hA hsz => ?_)
  · match ds, hd with
    | [d1, d2], _ => rfl
  · rw [Try.params3] at hA hval hsz
    obtain ⟨v0, vs0, d0, ds0, p0, q0, hargs, rfl, rfl, h0, r0⟩ := trodAll_cons hA
    obtain ⟨v1, vs1, d1, ds1, p1, q1, rfl, rfl, rfl, h1, r1⟩ := trodAll_cons r0
    obtain ⟨rfl, rfl, rfl⟩ := trodAll_nil r1
    obtain rfl : args = #[v0, v1] := by cases args; simp_all
    obtain ⟨A0, n0, c0, xs0, rfl, hx0⟩ := open_man (hval 0 24 v0 rfl rfl) h0
    obtain ⟨A1, n1, c1, xs1, rfl, hx1⟩ := open_bytes Try.underlying25 Try.underlying5 (by kernel_rfl) (by kernel_rfl) (hval 1 25 v1 rfl rfl) h1 hsz (j := 1) rfl rfl
    exact manTells_law W A0 n0 c0 xs0 hx0 A1 n1 c1 xs1 hx1

theorem manTells_over : Rows.manTellsRow.holds Try.pinned (OpenSpec.ofChange Rows.manTellsSpec) :=
  OpenClaim.holds_of_wide 3 Try.f3 rfl rfl rfl rfl rfl rfl rfl ⟨rfl, rfl, rfl, rfl, rfl⟩ rfl rfl rfl rfl rfl (by kernel_rfl) Try.func3 (by kernel_rfl)
    (of_decide_eq_true (by kernel_rfl)) (by unfold Func.isWrapper; first | (rw [if_pos (by decide +kernel)]; kernel_rfl) | (rw [if_neg (by decide +kernel)]; exact ⟨rfl, rfl⟩))
    (fun os started H enc _ => manTells_lifted os started H enc)
theorem manTells_holds : Rows.ManTellsSaid := manTells_over
end Go.Proofs.Ytdkpbphgaenlnaa
