/-
  The walk of law 05's head: a live question.
-/
import Derived.Test.YtfopiifchcaciaaNmSeg
import Derived.Test.YtfopiifchcaciaaNmSame
namespace Go.Proofs.Ytfopiifchcaciaa
open Go.RowKit
set_option linter.unusedSimpArgs false
set_option linter.unusedVariables false

theorem head_segs : setP (numsP [[115, 48, 48, 48, 48, 48, 48, 48, 55], [109], [115, 48, 48, 48, 48, 48, 48, 48, 50], [115, 48, 48, 48, 48, 48, 48, 48, 55], [120]]) = [2, 7] := set_of _ _ (by unfold Rise; decide) (fun x => by
  rw [show numsP [[115, 48, 48, 48, 48, 48, 48, 48, 55], [109], [115, 48, 48, 48, 48, 48, 48, 48, 50], [115, 48, 48, 48, 48, 48, 48, 48, 55], [120]] = [7, 2, 7] from by decide +kernel]
  simp
  omega)

set_option maxRecDepth 100000 in
set_option maxHeartbeats 4000000 in
theorem head_any (w : World) : Calls Try.prog 9 #[] w fun e w' => e = .returned (.bool true) ∧ Grows w w' := by
  go_enter Try.func9, Try.ntmps9
  go_wp2_with (fail)
  refine (parse_any [104, 48, 48, 48, 48, 48, 48, 52, 50] (by decide) w).mono ?_
  rw [show trip (parseP [104, 48, 48, 48, 48, 48, 48, 52, 50]) = (2, 42, true) from by decide +kernel]
  rintro e w1 ⟨rfl, hb1⟩
  have HG1 := Lib.hid hb1
  clear hb1
  unfold tripV
  go_wp2_with (fail)
  refine (parse_any [115, 48, 48, 48, 48, 48, 48, 52, 97] (by decide) w1).mono ?_
  rw [show trip (parseP [115, 48, 48, 48, 48, 48, 48, 52, 97]) = (0, 0, false) from by decide +kernel]
  rintro e w2 ⟨rfl, hb2⟩
  have HG2 := Lib.hid (Grows.trans HG1.out hb2)
  clear hb2
  unfold tripV
  go_wp2_with (fail)
  refine (of_any 1 42 w2).mono ?_
  rw [show ofP 1 42 = [115, 48, 48, 48, 48, 48, 48, 52, 50] from by decide +kernel]
  rintro e w3 ⟨rfl, hb3⟩
  have HG3 := Lib.hid (Grows.trans HG2.out hb3)
  clear hb3
  skip
  go_wp2_with (fail)
  refine (of_any 3 0 w3).mono ?_
  rw [show ofP 3 0 = [109] from by decide +kernel]
  rintro e w4 ⟨rfl, hb4⟩
  have HG4 := Lib.hid (Grows.trans HG3.out hb4)
  clear hb4
  skip
  go_wp2_with (fail)
  refine (of_any 4 0 w4).mono ?_
  rw [show ofP 4 0 = [116] from by decide +kernel]
  rintro e w5 ⟨rfl, hb5⟩
  have HG5 := Lib.hid (Grows.trans HG4.out hb5)
  clear hb5
  skip
  go_wp2_with (fail)
  refine (of_any 3 1 w5).mono ?_
  rw [show ofP 3 1 = [] from by decide +kernel]
  rintro e w6 ⟨rfl, hb6⟩
  have HG6 := Lib.hid (Grows.trans HG5.out hb6)
  clear hb6
  skip
  go_wp2_with (fail)
  refine (of_any 1 100000000 w6).mono ?_
  rw [show ofP 1 100000000 = [] from by decide +kernel]
  rintro e w7 ⟨rfl, hb7⟩
  have HG7 := Lib.hid (Grows.trans HG6.out hb7)
  clear hb7
  skip
  go_wp2_with (fail)
  have hm := Whole.made w7 9 #[.string ⟨#[115, 48, 48, 48, 48, 48, 48, 48, 55]⟩, .string ⟨#[109]⟩, .string ⟨#[115, 48, 48, 48, 48, 48, 48, 48, 50]⟩, .string ⟨#[115, 48, 48, 48, 48, 48, 48, 48, 55]⟩, .string ⟨#[120]⟩]
  have hst : Strs (w7.alloc (.cells #[.string ⟨#[115, 48, 48, 48, 48, 48, 48, 48, 55]⟩, .string ⟨#[109]⟩, .string ⟨#[115, 48, 48, 48, 48, 48, 48, 48, 50]⟩, .string ⟨#[115, 48, 48, 48, 48, 48, 48, 48, 55]⟩, .string ⟨#[120]⟩] 9)) (some ⟨w7.heap.size, 0, none⟩) 5 5 [[115, 48, 48, 48, 48, 48, 48, 48, 55], [109], [115, 48, 48, 48, 48, 48, 48, 48, 50], [115, 48, 48, 48, 48, 48, 48, 48, 55], [120]] :=
    ⟨Whole.row hm ([[115, 48, 48, 48, 48, 48, 48, 48, 55], [109], [115, 48, 48, 48, 48, 48, 48, 48, 50], [115, 48, 48, 48, 48, 48, 48, 48, 55], [120]].map strV) 5 rfl rfl, Nat.le_refl _, (fun h => by cases h), by decide⟩
  refine (segs_any _ 5 5 [[115, 48, 48, 48, 48, 48, 48, 48, 55], [109], [115, 48, 48, 48, 48, 48, 48, 48, 50], [115, 48, 48, 48, 48, 48, 48, 48, 55], [120]] _ hst (by omega)).mono ?_
  rw [head_segs]
  rintro e w8 ⟨A8, c8, rfl, ho8, hb8⟩
  have HO8 := Lib.hid ho8
  have HG8 := Lib.hid (Grows.trans HG7.out (Grows.trans (grows_alloc _ _) hb8))
  clear hm hst ho8 hb8
  go_wp2_with (fail)
  have hm := Whole.made w8 3 #[.int .i64 2, .int .i64 7]
  refine (same_ints A8 2 c8 (some ⟨w8.heap.size, 0, none⟩) 2 2 [2, 7] [2, 7] _ (Grows.row (grows_alloc _ _) (Row.owned HO8.out)) (Whole.row hm _ 2 rfl rfl) (by omega)).mono ?_
  rw [decide_eq_true rfl]
  rintro e w9 ⟨rfl, hb9⟩
  have HG9 := Lib.hid (Grows.trans HG8.out (Grows.trans (grows_alloc _ _) hb9))
  clear hm hb9
  go_wp2_with (fail)
  go_ret
  exact ⟨rfl, HG9.out⟩
end Go.Proofs.Ytfopiifchcaciaa
