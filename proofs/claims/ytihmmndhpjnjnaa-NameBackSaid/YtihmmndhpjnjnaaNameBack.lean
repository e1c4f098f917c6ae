/-
  Statement NameBack: a name tells its kind and its number; what any name tells has it. Every kind, number and text, no condition.
-/
import Derived.Test.YtihmmndhpjnjnaaNmHead
import Derived.Test.YtihmmndhpjnjnaaNmIn
import Derived.ProofKit
import Derived.ChangeOld
namespace Go.Proofs.Ytihmmndhpjnjnaa
open Go.ChangeShapes Go.WideShapes Go.ChangeAt Go.RowKit
set_option linter.unusedSimpArgs false
set_option linter.unusedVariables false

set_option maxRecDepth 100000 in
set_option maxHeartbeats 8000000 in
theorem nameBack_law (k : Int) (_hk : True) (n : Int) (_hn : True) (l : List UInt8) (hl : l.length ≤ 9223372036854775807) (w : World) :
    Calls Try.prog 5 #[.int .i64 k, .int .i64 n, .string ⟨l.toArray⟩] w fun e w' => e = .returned (.bool true) ∧ Below w.heap.size w w' := by
  have hsz : (⟨l.toArray⟩ : ByteArray).size = l.length := by simp [ByteArray.size]
  go_enter Try.func5, Try.ntmps5
  go_wp2_with (fail)
  refine (head_any w).mono ?_
  rintro e w0 ⟨rfl, hb0⟩
  have HG0 := Lib.hid hb0
  clear hb0
  go_wp2_with (fail)
  refine (of_any k n w0).mono ?_
  rintro e w1 ⟨rfl, hb1⟩
  have HG1 := Lib.hid (Grows.trans HG0.out hb1)
  clear hb1
  obtain ⟨R, hR⟩ : ∃ R, ofP k n = R := ⟨_, rfl⟩
  rw [hR]
  have hRl : R.length ≤ 9223372036854775807 := by
    rw [← hR]
    unfold ofP
    repeat' split
    all_goals simp [digs_length]
  by_cases hne : R = []
  · subst hne
    clear hR
    go_wp2_with (fail)
    refine (parse_any [] hRl w1).mono ?_
    rw [show trip (parseP []) = (0, 0, false) from rfl]
    rintro e w2 ⟨rfl, hb2⟩
    have HG2 := Lib.hid (Grows.trans HG1.out hb2)
    clear hb2
    unfold tripV
    dsimp only
    by_cases h9 : (900 : Int) < (l.length : Int)
    · go_wp2_with (fail)
      go_ret
      exact ⟨rfl, HG2.out⟩
    · go_wp2_with (fail)
      refine (parse_any l hl w2).mono ?_
      cases hp : parseP l with
      | none =>
        rintro e w3 ⟨rfl, hb3⟩
        have HG3 := Lib.hid (Grows.trans HG2.out hb3)
        clear hb3 hp
        unfold tripV trip
        dsimp only
        go_wp2_with (fail)
        go_ret
        exact ⟨rfl, HG3.out⟩
      | some p =>
        obtain ⟨a, b⟩ := p
        have HOF := Lib.hid (of_parse l a b hp)
        rintro e w3 ⟨rfl, hb3⟩
        have HG3 := Lib.hid (Grows.trans HG2.out hb3)
        clear hb3 hp
        unfold tripV trip
        dsimp only
        go_wp2_with (fail)
        refine (of_any a b w3).mono ?_
        rw [HOF.out]
        rintro e w4 ⟨rfl, hb4⟩
        have HG4 := Lib.hid (Grows.trans HG3.out hb4)
        clear hb4
        go_wp2_with (fail)
        go_ret
        exact ⟨rfl, HG4.out⟩
  · have hp := parse_of k n (by rw [hR]; exact hne)
    rw [hR] at hp
    have hie : R.isEmpty = false := by cases R with
      | nil => exact absurd rfl hne
      | cons _ _ => rfl
    have hrb : (R == []) = false := by simpa using hne
    clear hR hne
    go_wp2_with (fail)
    refine (parse_any R hRl w1).mono ?_
    rw [hp]
    rintro e w2 ⟨rfl, hb2⟩
    have HG2 := Lib.hid (Grows.trans HG1.out hb2)
    clear hb2 hp
    unfold tripV trip
    dsimp only
    by_cases h9 : (900 : Int) < (l.length : Int)
    · go_wp2_with (fail)
      go_ret
      exact ⟨rfl, HG2.out⟩
    · go_wp2_with (fail)
      refine (parse_any l hl w2).mono ?_
      cases hp : parseP l with
      | none =>
        rintro e w3 ⟨rfl, hb3⟩
        have HG3 := Lib.hid (Grows.trans HG2.out hb3)
        clear hb3 hp
        unfold tripV trip
        dsimp only
        go_wp2_with (fail)
        go_ret
        exact ⟨rfl, HG3.out⟩
      | some p =>
        obtain ⟨a, b⟩ := p
        have HOF := Lib.hid (of_parse l a b hp)
        rintro e w3 ⟨rfl, hb3⟩
        have HG3 := Lib.hid (Grows.trans HG2.out hb3)
        clear hb3 hp
        unfold tripV trip
        dsimp only
        go_wp2_with (fail)
        refine (of_any a b w3).mono ?_
        rw [HOF.out]
        rintro e w4 ⟨rfl, hb4⟩
        have HG4 := Lib.hid (Grows.trans HG3.out hb4)
        clear hb4
        go_wp2_with (fail)
        go_ret
        exact ⟨rfl, HG4.out⟩

set_option maxRecDepth 100000 in
theorem nameBack_lifted (os : Os) (started : os.Started) (H : Type) (enc : TypeId × Value → H) :
    ReturnsInHanded {} Try.checked os 5 .any (Rows.nameBackSpec.pre6 enc Try.prog Try.f5 Rows.nameBackRow.domain false) (Rows.nameBackSpec.post enc Try.prog Try.f5 false true false false) := by
  refine lift_law (C := Try.checked) H enc own started (by kernel_rfl) Try.func5
    (ChangeSpec.witness6 (enc := enc) (C := Try.checked) false ⟨#[], #[.int .i64 0, .int .i64 0, .string ⟨#[]⟩], []⟩ 16 (by kernel_rfl) (by kernel_rfl) (by kernel_rfl) (by kernel_rfl))
    laidOut (of_readable (by kernel_rfl)) rfl Try.underlying4 rfl (fun ds hd => ?_) (fun W base args ds p hval hA hsz => ?_)
  · match ds, hd with
    | [d1, d2, d3], _ => rfl
  · rw [Try.params5] at hA hval hsz
    obtain ⟨v0, vs0, d0, ds0, p0, q0, hargs, rfl, rfl, h0, r0⟩ := trodAll_cons hA
    obtain ⟨v1, vs1, d1, ds1, p1, q1, rfl, rfl, rfl, h1, r1⟩ := trodAll_cons r0
    obtain ⟨v2, vs2, d2, ds2, p2, q2, rfl, rfl, rfl, h2, r2⟩ := trodAll_cons r1
    obtain ⟨rfl, rfl, rfl⟩ := trodAll_nil r2
    obtain rfl : args = #[v0, v1, v2] := by cases args; simp_all
    obtain ⟨a0, rfl, _, _, w0⟩ := open_int Try.underlying3 (hval 0 3 v0 rfl rfl) h0
    have b0 := bounds_i64 w0
    obtain ⟨a1, rfl, _, _, w1⟩ := open_int Try.underlying3 (hval 1 3 v1 rfl rfl) h1
    have b1 := bounds_i64 w1
    obtain ⟨l2, rfl, hl2⟩ := open_text Try.underlying9 (hval 2 9 v2 rfl rfl) h2
    exact nameBack_law a0 trivial a1 trivial l2 hl2 W

theorem nameBack_over : Rows.nameBackRow.holds Try.pinned (OpenSpec.ofChange Rows.nameBackSpec) :=
  OpenClaim.holds_of_wide 5 Try.f5 rfl rfl rfl rfl rfl rfl rfl ⟨rfl, rfl, rfl, rfl, rfl⟩ rfl rfl rfl rfl rfl (by kernel_rfl) Try.func5 (by kernel_rfl)
    (of_decide_eq_true (by kernel_rfl)) (by unfold Func.isWrapper; first | (rw [if_pos (by decide +kernel)]; kernel_rfl) | (rw [if_neg (by decide +kernel)]; exact ⟨rfl, rfl⟩))
    (fun os started H enc _ => nameBack_lifted os started H enc)
theorem nameBack_holds : Rows.NameBackSaid := nameBack_over
end Go.Proofs.Ytihmmndhpjnjnaa
