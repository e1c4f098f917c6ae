/-
  The walk of souterrainlaw07.head: it is true, and writes nothing that was there.
-/
import Derived.Test.YtfopiifchcaciaaSpSame
namespace Go.Proofs.Ytfopiifchcaciaa
open Go.RowKit
set_option linter.unusedVariables false
set_option linter.unusedSimpArgs false

theorem allP_head : allP [3, 3, 2] 2 5 = [(0, 2, 3), (1, 0, 3), (2, 0, 1)] := by decide
theorem allP_out : allP [3] 4 1 = [] := by decide
theorem sizeP_head : sizeP [3, 3, 2] = 8 := by decide
theorem sizeP_not : sizeP [3, 0] = 0 := by decide
theorem clipP_head : clipP 10 4 99 = (4, 10, true) := by decide
theorem clipP_not : clipP 10 11 0 = (0, 0, false) := by decide

set_option maxRecDepth 100000 in
set_option maxHeartbeats 4000000 in
theorem head7_any (w : World) : Calls Try.prog 17 #[] w fun e w' => e = .returned (.bool true) ∧ Below w.heap.size w w' := by
  go_enter Try.func17, Try.ntmps17
  go_wp2_with (fail)
  have h1 := parts_of (some ⟨w.heap.size, 0, none⟩) 3 3 [3, 3, 2] 2 5 _ (Ints.lit (Whole.made w 3 #[.int .i64 3, .int .i64 3, .int .i64 2]) [3, 3, 2] rfl rfl) (by omega) (by omega)
  rw [allP_head] at h1
  refine h1.mono ?_
  clear h1
  rintro e w1 ⟨A1, c1, rfl, ho1, hb1⟩
  have H1 := Lib.hid (And.intro (Pts.owned rfl ho1) (Grows.trans (grows_alloc w _) hb1))
  clear ho1 hb1
  simp only [List.length_cons, List.length_nil, Nat.reduceAdd] at H1 ⊢
  go_wp2_with (fail)
  have h2 := clip_any 10 4 99 w1 (by omega) (by omega) (by omega)
  rw [clipP_head] at h2
  refine h2.mono ?_
  clear h2
  rintro e w2 ⟨rfl, rfl⟩
  go_wp2_with (fail)
  have h3 := clip_any 10 11 0 w1 (by omega) (by omega) (by omega)
  rw [clipP_not] at h3
  refine h3.mono ?_
  clear h3
  rintro e w2 ⟨rfl, rfl⟩
  go_wp2_with (fail)
  have hg4 := grows_alloc w1 (.cells #[.int .i64 0, .int .i64 2, .int .i64 3, .int .i64 1, .int .i64 0, .int .i64 3, .int .i64 2, .int .i64 0, .int .i64 1] 40)
  refine (same_true _ _ _ _ _ _ _ _ _ (H1.out.1.grow hg4) (Pts.lit (Whole.made w1 40 #[.int .i64 0, .int .i64 2, .int .i64 3, .int .i64 1, .int .i64 0, .int .i64 3, .int .i64 2, .int .i64 0, .int .i64 1]) [(0, 2, 3), (1, 0, 3), (2, 0, 1)] rfl rfl) (by omega) rfl).mono ?_
  rintro e w3 ⟨rfl, hg3⟩
  have H3 := Lib.hid (Grows.trans H1.out.2 (Grows.trans hg4 hg3))
  clear hg4 hg3
  go_wp2_with (fail)
  have h5 := size_any (some ⟨w3.heap.size, 0, none⟩) 3 3 [3, 3, 2] _ (Ints.lit (Whole.made w3 3 #[.int .i64 3, .int .i64 3, .int .i64 2]) [3, 3, 2] rfl rfl)
  rw [sizeP_head] at h5
  refine h5.mono ?_
  clear h5
  rintro e w5 ⟨rfl, hw5⟩
  have H5 := Lib.hid (Grows.trans H3.out (hw5 ▸ grows_alloc w3 _))
  clear hw5
  go_wp2_with (fail)
  have h6 := size_any (some ⟨w5.heap.size, 0, none⟩) 2 2 [3, 0] _ (Ints.lit (Whole.made w5 3 #[.int .i64 3, .int .i64 0]) [3, 0] rfl rfl)
  rw [sizeP_not] at h6
  refine h6.mono ?_
  clear h6
  rintro e w6 ⟨rfl, hw6⟩
  have H6 := Lib.hid (Grows.trans H5.out (hw6 ▸ grows_alloc w5 _))
  clear hw6
  go_wp2_with (fail)
  have h7 := parts_of (some ⟨w6.heap.size, 0, none⟩) 1 1 [3] 4 1 _ (Ints.lit (Whole.made w6 3 #[.int .i64 3]) [3] rfl rfl) (by omega) (by omega)
  rw [allP_out] at h7
  refine h7.mono ?_
  clear h7
  rintro e w7 ⟨A7, c7, rfl, ho7, hb7⟩
  have H7 := Lib.hid (Grows.trans H6.out (Grows.trans (grows_alloc w6 _) hb7))
  clear ho7 hb7
  simp only [List.length_nil]
  go_wp2_with (fail)
  go_ret
  exact ⟨rfl, H7.out⟩
end Go.Proofs.Ytfopiifchcaciaa
