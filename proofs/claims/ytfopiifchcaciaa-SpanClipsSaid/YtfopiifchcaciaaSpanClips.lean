/-
  Statement SpanClips: a range is never longer than was asked, nor than there is; what is clipped is clipped to itself. Every size, off and n, no condition.
-/
import Derived.Test.YtfopiifchcaciaaSpHead
import Derived.ProofKit
import Derived.ChangeOld
namespace Go.Proofs.Ytfopiifchcaciaa
open Go.ChangeShapes Go.WideShapes Go.ChangeAt Go.RowKit
set_option linter.unusedSimpArgs false
set_option linter.unusedVariables false
set_option maxRecDepth 100000 in
set_option maxHeartbeats 8000000 in
theorem spanClips_law (w : World) (size : Int) (hs : (-9223372036854775808 ≤ size ∧ size ≤ 9223372036854775807)) (off : Int) (ho : (-9223372036854775808 ≤ off ∧ off ≤ 9223372036854775807)) (n : Int) (hn : (-9223372036854775808 ≤ n ∧ n ≤ 9223372036854775807)) :
    Calls Try.prog 8 #[.int .i64 size, .int .i64 off, .int .i64 n] w fun e w' => e = .returned (.bool true) ∧ Below w.heap.size w w' := by
  go_enter Try.func8, Try.ntmps8
  go_wp2_with (fail)
  refine (head7_any w).mono ?_
  rintro e w0 ⟨rfl, hb0⟩
  have HG0 := Lib.hid hb0
  clear hb0
  have HCL := Lib.hid (clip_any size off n w0 hs ho hn)
  by_cases h1 : size < 0
  · have hc : clipP size off n = (0, 0, false) := by unfold clipP; rw [if_pos (.inl h1)]
    rw [hc] at HCL
    have HC := HCL
    clear hc
    go_wp2_with (fail)
    refine HC.out.mono ?_
    rintro e w1 ⟨rfl, rfl⟩
    clear HC HCL
    go_wp2_with (fail)
    all_goals (go_ret; exact ⟨rfl, HG0.out⟩)
  by_cases h2 : 1073741824 < size
  · have hc : clipP size off n = (0, 0, false) := by unfold clipP; rw [if_pos (.inr (.inl h2))]
    rw [hc] at HCL
    have HC := HCL
    clear hc
    go_wp2_with (fail)
    refine HC.out.mono ?_
    rintro e w1 ⟨rfl, rfl⟩
    clear HC HCL
    go_wp2_with (fail)
    all_goals (go_ret; exact ⟨rfl, HG0.out⟩)
  by_cases h3 : off < 0
  · have hc : clipP size off n = (0, 0, false) := by unfold clipP; rw [if_pos (.inr (.inr (.inl h3)))]
    rw [hc] at HCL
    have HC := HCL
    clear hc
    go_wp2_with (fail)
    refine HC.out.mono ?_
    rintro e w1 ⟨rfl, rfl⟩
    clear HC HCL
    go_wp2_with (fail)
    all_goals (go_ret; exact ⟨rfl, HG0.out⟩)
  by_cases h4 : size < off
  · have hc : clipP size off n = (0, 0, false) := by unfold clipP; rw [if_pos (.inr (.inr (.inr (.inl h4))))]
    rw [hc] at HCL
    have HC := HCL
    clear hc
    go_wp2_with (fail)
    refine HC.out.mono ?_
    rintro e w1 ⟨rfl, rfl⟩
    clear HC HCL
    go_wp2_with (fail)
    all_goals (go_ret; exact ⟨rfl, HG0.out⟩)
  by_cases h5 : n < 0
  · have hc : clipP size off n = (0, 0, false) := by unfold clipP; rw [if_pos (.inr (.inr (.inr (.inr h5))))]
    rw [hc] at HCL
    have HC := HCL
    clear hc
    go_wp2_with (fail)
    refine HC.out.mono ?_
    rintro e w1 ⟨rfl, rfl⟩
    clear HC HCL
    go_wp2_with (fail)
    all_goals (go_ret; exact ⟨rfl, HG0.out⟩)
  obtain ⟨m, hm⟩ : ∃ m, (if n < size - off then n else size - off) = m := ⟨_, rfl⟩
  obtain ⟨b, hb⟩ : ∃ b, off + m = b := ⟨_, rfl⟩
  have hm1 : 0 ≤ m ∧ off + m ≤ size ∧ m ≤ n ∧ (m = n ∨ b = size) := by
    rw [← hm] at hb ⊢
    split at hb <;> split <;> omega
  have hc : clipP size off n = (off, b, true) := by unfold clipP; rw [if_neg (by omega), hm, hb]
  have hc2 : clipP size off m = (off, b, true) := by
    unfold clipP
    rw [if_neg (by omega)]
    congr 2
    split <;> omega
  have HC2 := Lib.hid (clip_any size off m w0 hs ho (by omega))
  rw [hc] at HCL
  rw [hc2] at HC2
  have k1 : IntKind.i64.wrap (b - off) = m := (IntWalk.i64_in _ (by omega)).trans (by omega)
  have k2 : wrap64 (b - off) = m := (IntWalk.wrap64_in _ (by omega)).trans (by omega)
  have q1 : off ≤ b := by omega
  have q2 : b ≤ size := by omega
  have q3 : m ≤ n := by omega
  have q4 : m = n ∨ b = size := hm1.2.2.2
  clear hc hc2 hm1 hm hb hs ho hn
  dsimp only at HCL HC2
  by_cases he : m = n
  · clear q4
    subst he
    go_wp2_with (fail)
    refine HCL.out.mono ?_
    rintro e w1 ⟨rfl, rfl⟩
    clear HCL
    go_wp2_with (fail)
    refine HC2.out.mono ?_
    rintro e w1 ⟨rfl, rfl⟩
    clear HC2
    go_wp2_with (fail)
    all_goals (go_ret; exact ⟨rfl, HG0.out⟩)
  · have q5 := q4.resolve_left he
    clear q4
    subst q5
    have he2 : (m == n) = false := by rw [beq_eq_false_iff_ne]; exact he
    go_wp2_with (fail)
    refine HCL.out.mono ?_
    rintro e w1 ⟨rfl, rfl⟩
    clear HCL
    go_wp2_with (fail)
    refine HC2.out.mono ?_
    rintro e w1 ⟨rfl, rfl⟩
    clear HC2
    go_wp2_with (fail)
    all_goals (go_ret; exact ⟨rfl, HG0.out⟩)

set_option maxRecDepth 100000 in
theorem spanClips_lifted (os : Os) (started : os.Started) (H : Type) (enc : TypeId × Value → H) :
    ReturnsInHanded {} Try.checked os 8 .any (Rows.spanClipsSpec.pre6 enc Try.prog Try.f8 Rows.spanClipsRow.domain false) (Rows.spanClipsSpec.post enc Try.prog Try.f8 false true false false) := by
  refine lift_law (C := Try.checked) H enc own started (by kernel_rfl) Try.func8
    (ChangeSpec.witness6 (enc := enc) (C := Try.checked) false ⟨#[], #[.int .i64 0, .int .i64 0, .int .i64 0], []⟩ 16 (by kernel_rfl) (by kernel_rfl) (by kernel_rfl) (by kernel_rfl))
    laidOut (of_readable (by kernel_rfl)) rfl Try.underlying4 rfl (fun ds hd => ?_) (fun W base args ds p hval hA hsz => ?_)
  · match ds, hd with
    | [d1, d2, d3], _ => rfl
  · rw [Try.params8] at hA hval hsz
    obtain ⟨v0, vs0, d0, ds0, p0, q0, hargs, rfl, rfl, h0, r0⟩ := trodAll_cons hA
    obtain ⟨v1, vs1, d1, ds1, p1, q1, rfl, rfl, rfl, h1, r1⟩ := trodAll_cons r0
    obtain ⟨v2, vs2, d2, ds2, p2, q2, rfl, rfl, rfl, h2, r2⟩ := trodAll_cons r1
    obtain ⟨rfl, rfl, rfl⟩ := trodAll_nil r2
    obtain rfl : args = #[v0, v1, v2] := by cases args; simp_all
    obtain ⟨a0, rfl, _, _, w0⟩ := open_int Try.underlying3 (hval 0 3 v0 rfl rfl) h0
    have b0 := bounds_i64 w0
    obtain ⟨a1, rfl, _, _, w1⟩ := open_int Try.underlying3 (hval 1 3 v1 rfl rfl) h1
    have b1 := bounds_i64 w1
    obtain ⟨a2, rfl, _, _, w2⟩ := open_int Try.underlying3 (hval 2 3 v2 rfl rfl) h2
    have b2 := bounds_i64 w2
    exact spanClips_law W a0 (by omega) a1 (by omega) a2 (by omega)

theorem spanClips_over : Rows.spanClipsRow.holds Try.pinned (OpenSpec.ofChange Rows.spanClipsSpec) :=
  OpenClaim.holds_of_wide 8 Try.f8 rfl rfl rfl rfl rfl rfl rfl ⟨rfl, rfl, rfl, rfl, rfl⟩ rfl rfl rfl rfl rfl (by kernel_rfl) Try.func8 (by kernel_rfl)
    (of_decide_eq_true (by kernel_rfl)) (by unfold Func.isWrapper; first | (rw [if_pos (by decide +kernel)]; kernel_rfl) | (rw [if_neg (by decide +kernel)]; exact ⟨rfl, rfl⟩))
    (fun os started H enc _ => spanClips_lifted os started H enc)
theorem spanClips_holds : Rows.SpanClipsSaid := spanClips_over
end Go.Proofs.Ytfopiifchcaciaa
