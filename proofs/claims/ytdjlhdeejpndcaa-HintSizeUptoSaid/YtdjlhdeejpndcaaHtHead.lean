/-
  The walks of law 11's many and great.
-/
import Derived.Test.YtdjlhdeejpndcaaHtMem
import Derived.Test.YtdjlhdeejpndcaaQuiet
import Derived.Test.YtdjlhdeejpndcaaSteps
import Derived.Test.YtdjlhdeejpndcaaWalkBits
import Derived.LoopTactic
import Derived.IntWalk
import Derived.Lib.Hide
namespace Go.Proofs.Ytdjlhdeejpndcaa
open Go.RowKit
set_option linter.unusedVariables false
set_option linter.unusedSimpArgs false
attribute [local irreducible] Go.wpQuiet
/-- A yes; or a no, and then there are few. -/
def Asked (n : Nat) (w : World) (e : Ending) (w' : World) : Prop := ∃ r, e = .returned (.bool r) ∧ (r = false → n ≤ 300) ∧ Grows w w'

set_option maxRecDepth 100000 in
set_option maxHeartbeats 4000000 in
theorem many_any (A : Option Addr) (n c : Nat) (l : List Ht) (w : World) (h : Hts w A n c l) (hn : n ≤ 4611686018427387904) :
    Calls Try.prog 8 #[.slice A n c] w (Asked n w) := by
  have HX := Lib.hid h
  clear h
  go_enter Try.func8, Try.ntmps8
  go_wp2_with (fail)
  go_loopw [3, 4] (fun s i wr => ∃ (v : Int) (j : Nat), j ≤ n ∧ i = .int .i64 (j : Nat) ∧ s = .int .i64 v ∧ Hid (Grows w wr)) (fun _ i _ => n - (intOf i).toNat)
  case atStart => exact ⟨_, 0, by omega, rfl, rfl, Lib.hid (Grows.refl _)⟩
  case round =>
    obtain ⟨v, j, hj, rfl, rfl, HG⟩ := hrel
    by_cases hlt : j < n
    · have hlt' : (j : Int) < (n : Int) := by omega
      have k0 : (0 : Int) ≤ (j : Int) := by omega
      by_cases hv : v < 9000
      · obtain ⟨ad, x, rfl, hx, hb, hc⟩ := Hts.at HX.out hlt
        obtain ⟨c0, c1, c2, c3⟩ := hc wr HG.out
        clear hc hx hb c0 c2 c3
        generalize (⟨x.key.toArray⟩ : ByteArray) = ks at c1
        go_wp2_with (fail)
        all_goals
          go_roundw
          case rel => exact ⟨_, j + 1, by omega, by go_num, rfl, HG⟩
          case measure => simp [intOf]; omega
      · by_cases h3 : n ≤ 300
        · have h3' : ¬ (n : Int) > 300 := by omega
          go_wp2_with (fail)
          all_goals
            go_ret
            exact ⟨_, rfl, (fun _ => h3), HG.out⟩
        · have h3' : (n : Int) > 300 := by omega
          go_wp2_with (fail)
          all_goals
            go_ret
            exact ⟨true, rfl, (by intro h; cases h), HG.out⟩
    · have hlt' : ¬ (j : Int) < (n : Int) := by omega
      by_cases h3 : n ≤ 300
      · have h3' : ¬ (n : Int) > 300 := by omega
        go_wp2_with (fail)
        all_goals
          go_ret
          exact ⟨_, rfl, (fun _ => h3), HG.out⟩
      · have h3' : (n : Int) > 300 := by omega
        go_wp2_with (fail)
        all_goals
          go_ret
          exact ⟨true, rfl, (by intro h; cases h), HG.out⟩

set_option maxRecDepth 100000 in
set_option maxHeartbeats 4000000 in
theorem great_any (A : Option Addr) (n c : Nat) (l : List Fd) (w : World) (h : Fds w A n c l) (hn : n ≤ 4611686018427387904) :
    Calls Try.prog 13 #[.slice A n c] w (Asked n w) := by
  have HX := Lib.hid h
  clear h
  go_enter Try.func13, Try.ntmps13
  go_wp2_with (fail)
  go_loopw [3, 4] (fun s i wr => ∃ (v : Int) (j : Nat), j ≤ n ∧ i = .int .i64 (j : Nat) ∧ s = .int .i64 v ∧ Hid (Grows w wr)) (fun _ i _ => n - (intOf i).toNat)
  case atStart => exact ⟨_, 0, by omega, rfl, rfl, Lib.hid (Grows.refl _)⟩
  case round =>
    obtain ⟨v, j, hj, rfl, rfl, HG⟩ := hrel
    by_cases hlt : j < n
    · have hlt' : (j : Int) < (n : Int) := by omega
      have k0 : (0 : Int) ≤ (j : Int) := by omega
      by_cases hv : v < 9000
      · obtain ⟨ad, x, rfl, hx, hb, hc⟩ := Fds.at HX.out hlt
        obtain ⟨ks, hks⟩ : ∃ ks : ByteArray, (⟨x.key.toArray⟩ : ByteArray) = ks := ⟨_, rfl⟩
        obtain ⟨la, ln, lc, hl⟩ : ∃ la ln lc, x.locs = (la, ln, lc) := ⟨_, _, _, rfl⟩
        rw [hks, hl] at hc
        dsimp only at hc
        have HC := Lib.hid (fun w' (hC : Grows wr w') => And.intro (hc w' (HG.out.trans hC)).2.2.2.1 (hc w' (HG.out.trans hC)).2.2.2.2.2.2.2.1)
        obtain ⟨S, hS⟩ : ∃ S, IntKind.i64.wrap ((ks.size : Int) + (ln : Int)) = S := ⟨_, rfl⟩
        have hS2 : wrap64 ((ks.size : Int) + (ln : Int)) = S := by rw [← IntWalk.i64_left]; exact hS
        obtain ⟨M, hM⟩ : ∃ M, M = (if (9000 : Int) < S then 9000 else S) := ⟨_, rfl⟩
        obtain ⟨T, hT⟩ : ∃ T, IntKind.i64.wrap (v + M) = T := ⟨_, rfl⟩
        have hT2 : wrap64 (v + M) = T := by rw [← IntWalk.i64_left]; exact hT
        clear hc hx hb hks hl
        by_cases h9 : (9000 : Int) < S
        · rw [if_pos h9] at hM
          subst hM
          go_wp2_with (fail)
          refine q_region (by kernel_rfl) (by kernel_rfl) ?_
          iterate 19 (refine q_op' (v := ?_) (a' := ?_) (by rfl) ?_ ?_ ?_
                      rotate_left 2
                      · intro w' hC
                        obtain ⟨z0, z1⟩ := HC.out w' hC
                        clear hC
                        go_simp
                        try with_reducible rfl
                      · simp only [Act.put, List.setIfInBounds_toArray, List.set_cons_zero, List.set_cons_succ]
                        try rfl)
          refine wpQuiet_nil ?_
          intro w5 hC
          have HCw5 := Lib.hid hC
          clear hC
          go_wp2_with (fail)
          go_roundw
          case rel => exact ⟨_, j + 1, by omega, by go_num, rfl, Lib.hid (HG.out.trans HCw5.out)⟩
          case measure => simp [intOf]; omega
        · rw [if_neg h9] at hM
          subst hM
          go_wp2_with (fail)
          refine q_region (by kernel_rfl) (by kernel_rfl) ?_
          iterate 19 (refine q_op' (v := ?_) (a' := ?_) (by rfl) ?_ ?_ ?_
                      rotate_left 2
                      · intro w' hC
                        obtain ⟨z0, z1⟩ := HC.out w' hC
                        clear hC
                        go_simp
                        try with_reducible rfl
                      · simp only [Act.put, List.setIfInBounds_toArray, List.set_cons_zero, List.set_cons_succ]
                        try rfl)
          refine wpQuiet_nil ?_
          intro w5 hC
          have HCw5 := Lib.hid hC
          clear hC
          go_wp2_with (fail)
          go_roundw
          case rel => exact ⟨_, j + 1, by omega, by go_num, rfl, Lib.hid (HG.out.trans HCw5.out)⟩
          case measure => simp [intOf]; omega
      · by_cases h3 : n ≤ 300
        · have h3' : ¬ (n : Int) > 300 := by omega
          go_wp2_with (fail)
          all_goals
            go_ret
            exact ⟨_, rfl, (fun _ => h3), HG.out⟩
        · have h3' : (n : Int) > 300 := by omega
          go_wp2_with (fail)
          all_goals
            go_ret
            exact ⟨true, rfl, (by intro h; cases h), HG.out⟩
    · have hlt' : ¬ (j : Int) < (n : Int) := by omega
      by_cases h3 : n ≤ 300
      · have h3' : ¬ (n : Int) > 300 := by omega
        go_wp2_with (fail)
        all_goals
          go_ret
          exact ⟨_, rfl, (fun _ => h3), HG.out⟩
      · have h3' : (n : Int) > 300 := by omega
        go_wp2_with (fail)
        all_goals
          go_ret
          exact ⟨true, rfl, (by intro h; cases h), HG.out⟩
end Go.Proofs.Ytdjlhdeejpndcaa

