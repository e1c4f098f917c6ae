/-
  FrameTells holds of any two runs of bytes and any number: a body's frame, the first body of any bytes, or what is wrong, and frames' lengths, are the document's; no condition.
-/
import Derived.Test.YtfefghnincjlgaaHead2
import Derived.Test.YtfefghnincjlgaaRefAll
import Derived.Test.YtfefghnincjlgaaCame
namespace Go.Proofs.Ytfefghnincjlgaa
open Go.ChangeShapes Go.WideShapes Go.ChangeAt Go.RowKit

set_option maxRecDepth 100000 in
set_option maxHeartbeats 4000000 in
theorem ftells_one {w : World} (A : Option Addr) (n c : Nat) (bs : List UInt8) (ha : Came w A n c bs) (C : Option Addr) (k0 e0 : Nat) (cs : List UInt8) (hc : Came w C k0 e0 cs) (z : Int) (hz1 : -9223372036854775808 ≤ z) (hz2 : z ≤ 9223372036854775807) (hbig : 20000 < n) :
    Calls Try.prog 3 #[.slice A n c, .slice C k0 e0, .int .i64 z] w fun e w' => e = .returned (.bool true) ∧ Below w.heap.size w w' := by
  have r1 := ha.reach
  have r2 := ha.cap
  have r5 := hc.reach
  have r6 := hc.cap
  have HA := Lib.hid ha.sl
  have HCC := Lib.hid hc.sl
  clear ha hc
  have d1 : decide ((20000 : Int) < (n : Int)) = true := by simp; omega
  go_enter Try.func3, Try.ntmps3
  go_wp2_with (fail)
  refine (head2_any _).mono ?_
  rintro e w1 ⟨rfl, hb1⟩
  have HG1 := Lib.hid (show Grows w w1 from hb1)
  clear hb1
  go_wp2_with (fail)
  go_ret
  exact ⟨rfl, HG1.out⟩

set_option maxRecDepth 100000 in
set_option maxHeartbeats 4000000 in
theorem ftells_two {w : World} (A : Option Addr) (n c : Nat) (bs : List UInt8) (ha : Came w A n c bs) (C : Option Addr) (k0 e0 : Nat) (cs : List UInt8) (hc : Came w C k0 e0 cs) (z : Int) (hz1 : -9223372036854775808 ≤ z) (hz2 : z ≤ 9223372036854775807) (hsmall : ¬ 20000 < n) (hbig : 20000 < k0) :
    Calls Try.prog 3 #[.slice A n c, .slice C k0 e0, .int .i64 z] w fun e w' => e = .returned (.bool true) ∧ Below w.heap.size w w' := by
  have r1 := ha.reach
  have r2 := ha.cap
  have r5 := hc.reach
  have r6 := hc.cap
  have HA := Lib.hid ha.sl
  have HCC := Lib.hid hc.sl
  clear ha hc
  have d1 : decide ((20000 : Int) < (n : Int)) = false := by simp; omega
  have d2 : decide ((20000 : Int) < (k0 : Int)) = true := by simp; omega
  go_enter Try.func3, Try.ntmps3
  go_wp2_with (fail)
  refine (head2_any _).mono ?_
  rintro e w1 ⟨rfl, hb1⟩
  have HG1 := Lib.hid (show Grows w w1 from hb1)
  clear hb1
  go_wp2_with (fail)
  go_ret
  exact ⟨rfl, HG1.out⟩

set_option maxRecDepth 100000 in
set_option maxHeartbeats 4000000 in
theorem ftells_in {w : World} (A : Option Addr) (n c : Nat) (bs : List UInt8) (ha : Came w A n c bs) (C : Option Addr) (k0 e0 : Nat) (cs : List UInt8) (hc : Came w C k0 e0 cs) (z : Int) (hz1 : -9223372036854775808 ≤ z) (hz2 : z ≤ 9223372036854775807) (h1 : ¬ 20000 < n) (h2 : ¬ 20000 < k0) :
    Calls Try.prog 3 #[.slice A n c, .slice C k0 e0, .int .i64 z] w fun e w' => e = .returned (.bool true) ∧ Below w.heap.size w w' := by
  have r1 := ha.reach
  have r2 := ha.cap
  have r5 := hc.reach
  have r6 := hc.cap
  have HA := Lib.hid ha.sl
  have HCC := Lib.hid hc.sl
  clear ha hc
  have d1 : decide ((20000 : Int) < (n : Int)) = false := by simp; omega
  have d2 : decide ((20000 : Int) < (k0 : Int)) = false := by simp; omega
  go_enter Try.func3, Try.ntmps3
  go_wp2_with (fail)
  refine (head2_any _).mono ?_
  rintro e w1 ⟨rfl, hb1⟩
  have HG1 := Lib.hid (show Grows w w1 from hb1)
  clear hb1
  go_wp2_with (fail)
  generalize hfc : firstB cs = r at *
  obtain ⟨y, k, er⟩ := r
  have HFC := Lib.hid hfc
  clear hfc
  refine (first_any C k0 e0 cs _ (HCC.out.grow HG1.out) (by omega)).mono ?_
  rw [HFC.out]
  rintro e w2 ⟨A2, m2, c2, rfl, hs2, hb2⟩
  dsimp only at hs2
  have HS2 := Lib.hid hs2
  have HG2 := Lib.hid (Grows.trans HG1.out hb2)
  clear hs2 hb2
  go_wp2_with (fail)
  refine (refFirst_any C k0 e0 cs _ (HCC.out.grow HG2.out) (by omega)).mono ?_
  rw [HFC.out]
  rintro e w3 ⟨A3, m3, c3, rfl, hs3, hb3⟩
  dsimp only at hs3
  have HY3 := Lib.hid hs3
  have HY2 := Lib.hid (HS2.out.grow hb3)
  have HG3 := Lib.hid (Grows.trans HG2.out hb3)
  have HA3 := Lib.hid (HA.out.grow HG3.out)
  clear hs3 hb3
  go_wp2_with (fail)
  refine wp_region_facts (E := Grows) [valFact (.bool true), valFact (.bool true), valFact (.slice A n c), slFact (putB bs), valFact (.string ⟨(putB bs).toArray⟩), valFact (.slice A n c), slFact (putB bs), valFact (.string ⟨(putB bs).toArray⟩), valFact (.bool true), valFact (.bool true), valFact (.bool true), valFact (.slice A2 m2 c2), valFact (.string ⟨y.toArray⟩), valFact (.slice A3 m3 c3), valFact (.string ⟨y.toArray⟩), valFact (.bool true), valFact (.bool true), valFact (.bool true), valFact (.int .i64 (k : Int)), valFact (.int .i64 (k : Int)), valFact (.bool true), valFact (.bool true), valFact (.bool true), valFact (.int .i64 (er : Int)), valFact (.int .i64 (er : Int)), valFact (.bool true), valFact (.bool true), valFact (.bool true), valFact (.int .i64 z), valFact (.int .i64 (sizeN z)), valFact (.int .i64 z), valFact (.int .i64 (sizeN z)), valFact (.bool true), valFact (.bool true), valFact (.bool true)] (by kernel_rfl) (by kernel_rfl) (fun _ _ _ => Grows.trans) (grows_drew _) ?_
  refine f_val (.bool true) (by rfl) ?_ ?_
  · intro w' hC; clear hC; go_simp
  simp only [Act.put, List.setIfInBounds_toArray, List.set_cons_zero, List.set_cons_succ]
  refine f_val (.bool true) (by rfl) ?_ ?_
  · intro w' hC; clear hC; go_simp
  simp only [Act.put, List.setIfInBounds_toArray, List.set_cons_zero, List.set_cons_succ]
  refine f_val (.slice A n c) (by rfl) ?_ ?_
  · intro w' hC; clear hC; go_simp
  simp only [Act.put, List.setIfInBounds_toArray, List.set_cons_zero, List.set_cons_succ]
  refine f_new (putB bs) 12 #[.slice A n c] (by rfl) (by intro w' hC; clear hC; go_simp) ?_ ?_
  · intro w' hC _; exact put_any A n c bs w' (HA3.out.grow hC) (by unfold maxLen; omega)
  intro A4 c4
  simp only [Act.put, List.setIfInBounds_toArray, List.set_cons_zero, List.set_cons_succ]
  refine f_known (.string ⟨(putB bs).toArray⟩) (by rfl) ?_ ?_
  · intro w' hC hk; exact run_op_string rfl rfl (Known.get hk 0 rfl (by rfl))
  simp only [Act.put, List.setIfInBounds_toArray, List.set_cons_zero, List.set_cons_succ]
  refine f_val (.slice A n c) (by rfl) ?_ ?_
  · intro w' hC; clear hC; go_simp
  simp only [Act.put, List.setIfInBounds_toArray, List.set_cons_zero, List.set_cons_succ]
  refine f_new (putB bs) 13 #[.slice A n c] (by rfl) (by intro w' hC; clear hC; go_simp) ?_ ?_
  · intro w' hC _; exact refPut_any A n c bs w' (HA3.out.grow hC) (by unfold maxLen; omega)
  intro A5 c5
  simp only [Act.put, List.setIfInBounds_toArray, List.set_cons_zero, List.set_cons_succ]
  refine f_known (.string ⟨(putB bs).toArray⟩) (by rfl) ?_ ?_
  · intro w' hC hk; exact run_op_string rfl rfl (Known.get hk 0 rfl (by rfl))
  simp only [Act.put, List.setIfInBounds_toArray, List.set_cons_zero, List.set_cons_succ]
  refine f_val (.bool true) (by rfl) ?_ ?_
  · intro w' hC; clear hC; go_simp
  simp only [Act.put, List.setIfInBounds_toArray, List.set_cons_zero, List.set_cons_succ]
  refine f_val (.bool true) (by rfl) ?_ ?_
  · intro w' hC; clear hC; go_simp
  simp only [Act.put, List.setIfInBounds_toArray, List.set_cons_zero, List.set_cons_succ]
  refine f_val (.bool true) (by rfl) ?_ ?_
  · intro w' hC; clear hC; go_simp
  simp only [Act.put, List.setIfInBounds_toArray, List.set_cons_zero, List.set_cons_succ]
  refine f_val (.slice A2 m2 c2) (by rfl) ?_ ?_
  · intro w' hC; clear hC; go_simp
  simp only [Act.put, List.setIfInBounds_toArray, List.set_cons_zero, List.set_cons_succ]
  refine f_known (.string ⟨y.toArray⟩) (by rfl) ?_ ?_
  · intro w' hC _; exact run_op_string rfl rfl (HY2.out.grow hC)
  simp only [Act.put, List.setIfInBounds_toArray, List.set_cons_zero, List.set_cons_succ]
  refine f_val (.slice A3 m3 c3) (by rfl) ?_ ?_
  · intro w' hC; clear hC; go_simp
  simp only [Act.put, List.setIfInBounds_toArray, List.set_cons_zero, List.set_cons_succ]
  refine f_known (.string ⟨y.toArray⟩) (by rfl) ?_ ?_
  · intro w' hC _; exact run_op_string rfl rfl (HY3.out.grow hC)
  simp only [Act.put, List.setIfInBounds_toArray, List.set_cons_zero, List.set_cons_succ]
  refine f_val (.bool true) (by rfl) ?_ ?_
  · intro w' hC; clear hC; go_simp
  simp only [Act.put, List.setIfInBounds_toArray, List.set_cons_zero, List.set_cons_succ]
  refine f_val (.bool true) (by rfl) ?_ ?_
  · intro w' hC; clear hC; go_simp
  simp only [Act.put, List.setIfInBounds_toArray, List.set_cons_zero, List.set_cons_succ]
  refine f_val (.bool true) (by rfl) ?_ ?_
  · intro w' hC; clear hC; go_simp
  simp only [Act.put, List.setIfInBounds_toArray, List.set_cons_zero, List.set_cons_succ]
  refine f_val (.int .i64 (k : Int)) (by rfl) ?_ ?_
  · intro w' hC; clear hC; go_simp
  simp only [Act.put, List.setIfInBounds_toArray, List.set_cons_zero, List.set_cons_succ]
  refine f_val (.int .i64 (k : Int)) (by rfl) ?_ ?_
  · intro w' hC; clear hC; go_simp
  simp only [Act.put, List.setIfInBounds_toArray, List.set_cons_zero, List.set_cons_succ]
  refine f_val (.bool true) (by rfl) ?_ ?_
  · intro w' hC; clear hC; go_simp
  simp only [Act.put, List.setIfInBounds_toArray, List.set_cons_zero, List.set_cons_succ]
  refine f_val (.bool true) (by rfl) ?_ ?_
  · intro w' hC; clear hC; go_simp
  simp only [Act.put, List.setIfInBounds_toArray, List.set_cons_zero, List.set_cons_succ]
  refine f_val (.bool true) (by rfl) ?_ ?_
  · intro w' hC; clear hC; go_simp
  simp only [Act.put, List.setIfInBounds_toArray, List.set_cons_zero, List.set_cons_succ]
  refine f_val (.int .i64 (er : Int)) (by rfl) ?_ ?_
  · intro w' hC; clear hC; go_simp
  simp only [Act.put, List.setIfInBounds_toArray, List.set_cons_zero, List.set_cons_succ]
  refine f_val (.int .i64 (er : Int)) (by rfl) ?_ ?_
  · intro w' hC; clear hC; go_simp
  simp only [Act.put, List.setIfInBounds_toArray, List.set_cons_zero, List.set_cons_succ]
  refine f_val (.bool true) (by rfl) ?_ ?_
  · intro w' hC; clear hC; go_simp
  simp only [Act.put, List.setIfInBounds_toArray, List.set_cons_zero, List.set_cons_succ]
  refine f_val (.bool true) (by rfl) ?_ ?_
  · intro w' hC; clear hC; go_simp
  simp only [Act.put, List.setIfInBounds_toArray, List.set_cons_zero, List.set_cons_succ]
  refine f_val (.bool true) (by rfl) ?_ ?_
  · intro w' hC; clear hC; go_simp
  simp only [Act.put, List.setIfInBounds_toArray, List.set_cons_zero, List.set_cons_succ]
  refine f_val (.int .i64 z) (by rfl) ?_ ?_
  · intro w' hC; clear hC; go_simp
  simp only [Act.put, List.setIfInBounds_toArray, List.set_cons_zero, List.set_cons_succ]
  refine f_call 14 #[.int .i64 z] (.int .i64 (sizeN z)) (by rfl) (by intro w' hC; clear hC; go_simp) ?_ ?_
  · intro w' hC _; exact (size_any z w' hz1 hz2).mono fun e w2 ⟨he, hw⟩ => ⟨he, hw ▸ Grows.refl _⟩
  simp only [Act.put, List.setIfInBounds_toArray, List.set_cons_zero, List.set_cons_succ]
  refine f_val (.int .i64 z) (by rfl) ?_ ?_
  · intro w' hC; clear hC; go_simp
  simp only [Act.put, List.setIfInBounds_toArray, List.set_cons_zero, List.set_cons_succ]
  refine f_call 15 #[.int .i64 z] (.int .i64 (sizeN z)) (by rfl) (by intro w' hC; clear hC; go_simp) ?_ ?_
  · intro w' hC _; exact (refSize_any z w' hz1 hz2).mono fun e w2 ⟨he, hw⟩ => ⟨he, hw ▸ Grows.refl _⟩
  simp only [Act.put, List.setIfInBounds_toArray, List.set_cons_zero, List.set_cons_succ]
  refine f_val (.bool true) (by rfl) ?_ ?_
  · intro w' hC; clear hC; go_simp
  simp only [Act.put, List.setIfInBounds_toArray, List.set_cons_zero, List.set_cons_succ]
  refine f_val (.bool true) (by rfl) ?_ ?_
  · intro w' hC; clear hC; go_simp
  simp only [Act.put, List.setIfInBounds_toArray, List.set_cons_zero, List.set_cons_succ]
  refine f_val (.bool true) (by rfl) ?_ ?_
  · intro w' hC; clear hC; go_simp
  simp only [Act.put, List.setIfInBounds_toArray, List.set_cons_zero, List.set_cons_succ]
  intro w9 hC _
  have HCw9 := Lib.hid hC
  clear hC
  go_wp2_with (fail)
  go_ret
  exact ⟨rfl, Grows.trans HG3.out HCw9.out⟩

theorem ftells_law {w : World} (A : Option Addr) (n c : Nat) (bs : List UInt8) (ha : Came w A n c bs) (C : Option Addr) (k0 e0 : Nat) (cs : List UInt8) (hc : Came w C k0 e0 cs) (z : Int) (hz1 : -9223372036854775808 ≤ z) (hz2 : z ≤ 9223372036854775807) :
    Calls Try.prog 3 #[.slice A n c, .slice C k0 e0, .int .i64 z] w fun e w' => e = .returned (.bool true) ∧ Below w.heap.size w w' := by
  by_cases h1 : 20000 < n
  · exact ftells_one A n c bs ha C k0 e0 cs hc z hz1 hz2 h1
  · by_cases h2 : 20000 < k0
    · exact ftells_two A n c bs ha C k0 e0 cs hc z hz1 hz2 h1 h2
    · exact ftells_in A n c bs ha C k0 e0 cs hc z hz1 hz2 h1 h2

set_option maxRecDepth 100000 in
theorem frameTells_lifted (os : Os) (started : os.Started) (H : Type) (enc : TypeId × Value → H) :
    ReturnsInHanded {} Try.checked os 3 .any (Rows.frameTellsSpec.pre6 enc Try.prog Try.f3 Rows.frameTellsRow.domain false) (Rows.frameTellsSpec.post enc Try.prog Try.f3 false true false false) := by
  refine lift_law (C := Try.checked) H enc own started (by kernel_rfl) Try.func3
    (ChangeSpec.witness6 (enc := enc) (C := Try.checked) false ⟨#[], #[.slice none 0 0, .slice none 0 0, .int .i64 0], []⟩ 16 (by kernel_rfl) (by kernel_rfl) (by kernel_rfl) (by kernel_rfl))
    laidOut (of_readable (by kernel_rfl)) rfl Try.underlying4 rfl (fun ds hd => ?_) (fun W base args ds p hval hA hsz => ?_)
  · match ds, hd with
    | [d1, d2, d3], _ => rfl
  · rw [Try.params3] at hA hval hsz
    obtain ⟨v0, vs0, d0, ds0, p0, q0, hargs, rfl, rfl, h0, r0⟩ := trodAll_cons hA
    obtain ⟨v1, vs1, d1, ds1, p1, q1, rfl, rfl, rfl, h1, r1⟩ := trodAll_cons r0
    obtain ⟨v2, vs2, d2, ds2, p2, q2, rfl, rfl, rfl, h2, r2⟩ := trodAll_cons r1
    obtain ⟨rfl, rfl, rfl⟩ := trodAll_nil r2
    obtain rfl : args = #[v0, v1, v2] := by cases args; simp_all
    obtain ⟨A0, n0, c0, xs0, rfl, hx0⟩ := open_bytes Try.underlying22 Try.underlying5 (by kernel_rfl) (by kernel_rfl) (hval 0 22 v0 rfl rfl) h0 hsz (j := 0) rfl rfl
    obtain ⟨A1, n1, c1, xs1, rfl, hx1⟩ := open_bytes Try.underlying22 Try.underlying5 (by kernel_rfl) (by kernel_rfl) (hval 1 22 v1 rfl rfl) h1 hsz (j := 1) rfl rfl
    obtain ⟨a2, rfl, _, _, w2⟩ := open_int Try.underlying3 (hval 2 3 v2 rfl rfl) h2
    have b2 := bounds_i64 w2
    exact ftells_law A0 n0 c0 xs0 hx0 A1 n1 c1 xs1 hx1 a2 b2.1 b2.2

theorem frameTells_over : Rows.frameTellsRow.holds Try.pinned (OpenSpec.ofChange Rows.frameTellsSpec) :=
  OpenClaim.holds_of_wide 3 Try.f3 rfl rfl rfl rfl rfl rfl rfl ⟨rfl, rfl, rfl, rfl, rfl⟩ rfl rfl rfl rfl rfl (by kernel_rfl) Try.func3 (by kernel_rfl)
    (of_decide_eq_true (by kernel_rfl)) (by unfold Func.isWrapper; first | (rw [if_pos (by decide +kernel)]; kernel_rfl) | (rw [if_neg (by decide +kernel)]; exact ⟨rfl, rfl⟩))
    (fun os started H enc _ => frameTells_lifted os started H enc)
theorem frameTells_holds : Rows.FrameTellsSaid := frameTells_over

end Go.Proofs.Ytfefghnincjlgaa
