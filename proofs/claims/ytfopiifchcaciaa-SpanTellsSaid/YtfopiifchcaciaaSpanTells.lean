/-
  Statement SpanTells: the parts of any range of pieces of any sizes, how much these have, and how much of any range there is, are the document's answer. Every list of numbers, every off, n and size, no condition.
-/
import Derived.Test.YtfopiifchcaciaaSpHead
import Derived.ProofKit
import Derived.ChangeOld
namespace Go.Proofs.Ytfopiifchcaciaa
open Go.ChangeShapes Go.WideShapes Go.ChangeAt Go.RowKit
set_option linter.unusedSimpArgs false
set_option linter.unusedVariables false
set_option maxRecDepth 100000 in
set_option maxHeartbeats 8000000 in
theorem spanTells_law (w : World) (A : Option Addr) (n c : Nat) (xs : List Int) (hx : Ints w A n c xs) (off : Int) (ho : (-9223372036854775808 ≤ off ∧ off ≤ 9223372036854775807)) (k : Int) (hk : (-9223372036854775808 ≤ k ∧ k ≤ 9223372036854775807)) (size : Int) (hs : (-9223372036854775808 ≤ size ∧ size ≤ 9223372036854775807)) :
    Calls Try.prog 4 #[.slice A n c, .int .i64 off, .int .i64 k, .int .i64 size] w fun e w' => e = .returned (.bool true) ∧ Below w.heap.size w w' := by
  have HX := Lib.hid hx
  have HB := Lib.hid (And.intro ho (And.intro hk hs))
  clear hx ho hk hs
  go_enter Try.func4, Try.ntmps4
  go_wp2_with (fail)
  refine (head7_any w).mono ?_
  rintro e w0 ⟨rfl, hb0⟩
  have HG0 := Lib.hid hb0
  clear hb0
  by_cases hbig : (2000 : Int) < (n : Int)
  · go_wp2_with (fail)
    go_ret
    exact ⟨rfl, HG0.out⟩
  go_wp2_with (fail)
  refine (clip_any size off k w0 HB.out.2.2 HB.out.1 HB.out.2.1).mono ?_
  rintro e w1 ⟨rfl, rfl⟩
  obtain ⟨⟨fr, to, is⟩, hcl⟩ : ∃ t, clipP size off k = t := ⟨_, rfl⟩
  have HCL := Lib.hid hcl
  rw [hcl]
  clear hcl
  dsimp only
  go_wp2_with (fail)
  refine (ref_clip_any size off k w0 HB.out.2.2 HB.out.1 HB.out.2.1).mono ?_
  rintro e w1 ⟨rfl, rfl⟩
  rw [HCL.out]
  dsimp only
  go_wp2_with (fail)
  refine (parts_of A n c xs off k w0 (HX.out.grow HG0.out) HB.out.1 HB.out.2.1).mono ?_
  rintro e w1 ⟨A1, c1, rfl, ho1, hb1⟩
  have H1 := Lib.hid (And.intro (Pts.owned rfl ho1) hb1)
  clear ho1 hb1
  go_wp2_with (fail)
  refine (ref_parts_of A n c xs off k w1 ((HX.out.grow HG0.out).grow H1.out.2) (by omega) HB.out.1 HB.out.2.1).mono ?_
  rintro e w2 ⟨A2, c2, rfl, ho2, hb2⟩
  have H2 := Lib.hid (And.intro (Pts.owned rfl ho2) hb2)
  clear ho2 hb2
  have HFEW := Lib.hid (allP_few xs off k)
  go_wp2_with (fail)
  refine (same_true _ _ _ _ _ _ _ _ w2 (H1.out.1.grow H2.out.2) H2.out.1 (by have := HFEW.out; omega) rfl).mono ?_
  rintro e w3 ⟨rfl, hg3⟩
  have H3 := Lib.hid (Grows.trans (Grows.trans (Grows.trans HG0.out H1.out.2) H2.out.2) hg3)
  clear hg3
  go_wp2_with (fail)
  refine (size_any A n c xs w3 (HX.out.grow H3.out)).mono ?_
  rintro e w4 ⟨rfl, rfl⟩
  go_wp2_with (fail)
  refine (ref_size_any A n c xs w3 (HX.out.grow H3.out) (by omega)).mono ?_
  rintro e w4 ⟨rfl, rfl⟩
  go_wp2_with (fail)
  go_ret
  exact ⟨rfl, H3.out⟩

set_option maxRecDepth 100000 in
theorem spanTells_lifted (os : Os) (started : os.Started) (H : Type) (enc : TypeId × Value → H) :
    ReturnsInHanded {} Try.checked os 4 .any (Rows.spanTellsSpec.pre6 enc Try.prog Try.f4 Rows.spanTellsRow.domain false) (Rows.spanTellsSpec.post enc Try.prog Try.f4 false true false false) := by
  refine lift_law (C := Try.checked) H enc own started (by kernel_rfl) Try.func4
    (ChangeSpec.witness6 (enc := enc) (C := Try.checked) false ⟨#[], #[.slice none 0 0, .int .i64 0, .int .i64 0, .int .i64 0], []⟩ 16 (by kernel_rfl) (by kernel_rfl) (by kernel_rfl) (by kernel_rfl))
    laidOut (of_readable (by kernel_rfl)) rfl Try.underlying4 rfl (fun ds hd => ?_) (fun W base args ds p hval hA hsz => ?_)
  · match ds, hd with
    | [d1, d2, d3, d4], _ => rfl
  · rw [Try.params4] at hA hval hsz
    obtain ⟨v0, vs0, d0, ds0, p0, q0, hargs, rfl, rfl, h0, r0⟩ := trodAll_cons hA
    obtain ⟨v1, vs1, d1, ds1, p1, q1, rfl, rfl, rfl, h1, r1⟩ := trodAll_cons r0
    obtain ⟨v2, vs2, d2, ds2, p2, q2, rfl, rfl, rfl, h2, r2⟩ := trodAll_cons r1
    obtain ⟨v3, vs3, d3, ds3, p3, q3, rfl, rfl, rfl, h3, r3⟩ := trodAll_cons r2
    obtain ⟨rfl, rfl, rfl⟩ := trodAll_nil r3
    obtain rfl : args = #[v0, v1, v2, v3] := by cases args; simp_all
    obtain ⟨A0, n0, c0, xs0, rfl, hx0⟩ := open_i64s Try.underlying28 Try.underlying3 (by kernel_rfl) (hval 0 28 v0 rfl rfl) h0
    obtain ⟨a1, rfl, _, _, w1⟩ := open_int Try.underlying3 (hval 1 3 v1 rfl rfl) h1
    have b1 := bounds_i64 w1
    obtain ⟨a2, rfl, _, _, w2⟩ := open_int Try.underlying3 (hval 2 3 v2 rfl rfl) h2
    have b2 := bounds_i64 w2
    obtain ⟨a3, rfl, _, _, w3⟩ := open_int Try.underlying3 (hval 3 3 v3 rfl rfl) h3
    have b3 := bounds_i64 w3
    exact spanTells_law W A0 n0 c0 xs0 hx0 a1 (by omega) a2 (by omega) a3 (by omega)

theorem spanTells_over : Rows.spanTellsRow.holds Try.pinned (OpenSpec.ofChange Rows.spanTellsSpec) :=
  OpenClaim.holds_of_wide 4 Try.f4 rfl rfl rfl rfl rfl rfl rfl ⟨rfl, rfl, rfl, rfl, rfl⟩ rfl rfl rfl rfl rfl (by kernel_rfl) Try.func4 (by kernel_rfl)
    (of_decide_eq_true (by kernel_rfl)) (by unfold Func.isWrapper; first | (rw [if_pos (by decide +kernel)]; kernel_rfl) | (rw [if_neg (by decide +kernel)]; exact ⟨rfl, rfl⟩))
    (fun os started H enc _ => spanTells_lifted os started H enc)
theorem spanTells_holds : Rows.SpanTellsSaid := spanTells_over
end Go.Proofs.Ytfopiifchcaciaa
