/-
  The walks of hint's Right, and of what it asks.
-/
import Derived.Test.YtdjlhdeejpndcaaHtMem
import Derived.Test.YtdjlhdeejpndcaaMD
import Derived.Test.YtdjlhdeejpndcaaFHead
import Derived.Test.YtdjlhdeejpndcaaMP
import Derived.LoopTactic
namespace Go.Proofs.Ytdjlhdeejpndcaa
open Go.RowKit
set_option linter.unusedSimpArgs false
set_option linter.unusedVariables false
attribute [local irreducible] wpF

theorem hwithin_any (a lo hi : Int) (w : World) :
    Calls Try.prog 30 #[.int .i64 a, .int .i64 lo, .int .i64 hi] w fun e w' => e = .returned (.bool (decide (lo ≤ a) && decide (a ≤ hi))) ∧ Grows w w' := by
  go_enter Try.func30, Try.ntmps30
  go_wp2
  all_goals
    go_ret
    refine ⟨ret_bool (by rw [Bool.eq_iff_iff]; simp at *; omega), ?_⟩
    first | exact Below.refl _ _ | exact grows_alloc _ _
theorem hinted_any (k : Int) (w : World) :
    Calls Try.prog 24 #[.int .i64 k] w fun e w' => e = .returned (.bool (hintedB k)) ∧ Grows w w' := by
  go_enter Try.func24, Try.ntmps24
  go_wp2
  all_goals
    go_ret
    refine ⟨ret_bool (by unfold hintedB; rw [Bool.eq_iff_iff]; simp at *; omega), ?_⟩
    first | exact Below.refl _ _ | exact grows_alloc _ _
theorem keyB_any (k : List UInt8) (w : World) :
    Calls Try.prog 25 #[.string ⟨k.toArray⟩] w fun e w' => e = .returned (.bool (keyB k)) ∧ Grows w w' :=
  (key_any ⟨k.toArray⟩ w).mono fun e w' h => ⟨h.1.trans (ret_bool (by unfold keyB; rw [Bool.eq_iff_iff]; simp [ByteArray.size])), h.2⟩

set_option maxRecDepth 100000 in
set_option maxHeartbeats 4000000 in
theorem alone_any (h : Ht) (w : World) : Calls Try.prog 23 #[htV h] w fun e w' => e = .returned (.bool (aloneB h)) ∧ Grows w w' := by
  obtain ⟨k, key, a, s⟩ := h
  show Calls _ _ #[.agg #[.int .i64 k, .string ⟨key.toArray⟩, .int .i64 a, .int .i64 s]] _ _
  have hm := Whole.made w 35 #[.int .i64 k, .string ⟨key.toArray⟩, .int .i64 a, .int .i64 s]
  have hg := grows_alloc w (.cells #[.int .i64 k, .string ⟨key.toArray⟩, .int .i64 a, .int .i64 s] 35)
  obtain ⟨W1, hW1⟩ : ∃ y, w.alloc (.cells #[.int .i64 k, .string ⟨key.toArray⟩, .int .i64 a, .int .i64 s] 35) = y := ⟨_, rfl⟩
  rw [hW1] at hm hg
  have HG := Lib.hid hg
  have HC := Lib.hid (fun w' (hC : Grows W1 w') => by
    have h1 := hC.whole hm
    exact (⟨h1.cell 0, h1.cell 1, h1.cell 2, h1.cell 3⟩ : w'.cell? { block := w.heap.size, off := 0 } = some (.int .i64 k) ∧ w'.cell? { block := w.heap.size, off := 1 } = some (.string ⟨key.toArray⟩) ∧ w'.cell? { block := w.heap.size, off := 2 } = some (.int .i64 a) ∧ w'.cell? { block := w.heap.size, off := 3 } = some (.int .i64 s)))
  clear hm hg
  obtain ⟨b1, h1⟩ : ∃ b, hintedB k = b := ⟨_, rfl⟩
  obtain ⟨b2, h2⟩ : ∃ b, keyB key = b := ⟨_, rfl⟩
  obtain ⟨b3, h3⟩ : ∃ b, (decide ((0 : Int) ≤ a) && decide (a ≤ 1073741824)) = b := ⟨_, rfl⟩
  obtain ⟨b4, h4⟩ : ∃ b, (decide ((9 : Int) ≤ s) && decide (s ≤ 8200)) = b := ⟨_, rfl⟩
  have HR := Lib.hid (show aloneB ⟨k, key, a, s⟩ = (b1 && b2 && b3 && b4) by unfold aloneB; dsimp only; rw [h1, h2, h3, h4])
  have H1 := Lib.hid (fun w' => h1 ▸ hinted_any k w')
  have H2 := Lib.hid (fun w' => h2 ▸ keyB_any key w')
  have H3 := Lib.hid (fun w' => h3 ▸ hwithin_any a 0 1073741824 w')
  have H4 := Lib.hid (fun w' => h4 ▸ hwithin_any s 9 8200 w')
  clear h1 h2 h3 h4
  go_enter Try.func23, Try.ntmps23
  rcases b1 with _ | _
  · replace HR := Lib.hid (HR.out.trans (by simp : _ = false))
    go_wp2_with (fail)
    clear hW1
    refine wp_region_facts (E := Grows) [valFact (.pointer (some ⟨w.heap.size, 0, none⟩)), valFact (.int .i64 k), valFact (.bool false), valFact (.bool false), valFact undef, valFact undef, valFact undef, valFact (.bool false), valFact (.bool false), valFact undef, valFact undef, valFact undef, valFact (.bool false), valFact (.bool false), valFact undef, valFact undef, valFact undef, valFact undef, valFact undef, valFact (.bool false), valFact (.bool false)] (by kernel_rfl) (by kernel_rfl) (fun _ _ _ => Grows.trans) (grows_drew _) ?_
    refine f_val (.pointer (some ⟨w.heap.size, 0, none⟩)) (by rfl) ?_ ?_
    · intro w' hC; clear hC; go_simp
    simp only [Act.put, List.setIfInBounds_toArray, List.set_cons_zero, List.set_cons_succ]
    refine f_val (.int .i64 k) (by rfl) ?_ ?_
    · intro w' hC; obtain ⟨z0, z1, z2, z3⟩ := HC.out w' hC; clear hC; first | (go_simp; done)
    simp only [Act.put, List.setIfInBounds_toArray, List.set_cons_zero, List.set_cons_succ]
    refine f_call 24 #[.int .i64 k] (.bool false) (by rfl) (by intro w' hC; clear hC; go_simp) ?_ ?_
    · intro w' hC hks; exact (H1.out w').mono fun e w'' hh => ⟨hh.1, hh.2⟩
    simp only [Act.put, List.setIfInBounds_toArray, List.set_cons_zero, List.set_cons_succ]
    refine f_val (.bool false) (by rfl) ?_ ?_
    · intro w' hC; clear hC; go_simp
    simp only [Act.put, List.setIfInBounds_toArray, List.set_cons_zero, List.set_cons_succ]
    refine f_skip (by rfl) ?_
    simp only [Act.put, List.setIfInBounds_toArray, List.set_cons_zero, List.set_cons_succ]
    refine f_skip (by rfl) ?_
    simp only [Act.put, List.setIfInBounds_toArray, List.set_cons_zero, List.set_cons_succ]
    refine f_skip (by rfl) ?_
    simp only [Act.put, List.setIfInBounds_toArray, List.set_cons_zero, List.set_cons_succ]
    refine f_val (.bool false) (by rfl) ?_ ?_
    · intro w' hC; clear hC; go_simp
    simp only [Act.put, List.setIfInBounds_toArray, List.set_cons_zero, List.set_cons_succ]
    refine f_val (.bool false) (by rfl) ?_ ?_
    · intro w' hC; clear hC; go_simp
    simp only [Act.put, List.setIfInBounds_toArray, List.set_cons_zero, List.set_cons_succ]
    refine f_skip (by rfl) ?_
    simp only [Act.put, List.setIfInBounds_toArray, List.set_cons_zero, List.set_cons_succ]
    refine f_skip (by rfl) ?_
    simp only [Act.put, List.setIfInBounds_toArray, List.set_cons_zero, List.set_cons_succ]
    refine f_skip (by rfl) ?_
    simp only [Act.put, List.setIfInBounds_toArray, List.set_cons_zero, List.set_cons_succ]
    refine f_val (.bool false) (by rfl) ?_ ?_
    · intro w' hC; clear hC; go_simp
    simp only [Act.put, List.setIfInBounds_toArray, List.set_cons_zero, List.set_cons_succ]
    refine f_val (.bool false) (by rfl) ?_ ?_
    · intro w' hC; clear hC; go_simp
    simp only [Act.put, List.setIfInBounds_toArray, List.set_cons_zero, List.set_cons_succ]
    refine f_skip (by rfl) ?_
    simp only [Act.put, List.setIfInBounds_toArray, List.set_cons_zero, List.set_cons_succ]
    refine f_skip (by rfl) ?_
    simp only [Act.put, List.setIfInBounds_toArray, List.set_cons_zero, List.set_cons_succ]
    refine f_skip (by rfl) ?_
    simp only [Act.put, List.setIfInBounds_toArray, List.set_cons_zero, List.set_cons_succ]
    refine f_skip (by rfl) ?_
    simp only [Act.put, List.setIfInBounds_toArray, List.set_cons_zero, List.set_cons_succ]
    refine f_skip (by rfl) ?_
    simp only [Act.put, List.setIfInBounds_toArray, List.set_cons_zero, List.set_cons_succ]
    refine f_val (.bool false) (by rfl) ?_ ?_
    · intro w' hC; clear hC; go_simp
    simp only [Act.put, List.setIfInBounds_toArray, List.set_cons_zero, List.set_cons_succ]
    refine f_val (.bool false) (by rfl) ?_ ?_
    · intro w' hC; clear hC; go_simp
    simp only [Act.put, List.setIfInBounds_toArray, List.set_cons_zero, List.set_cons_succ]
    refine wpF_end ?_
    intro w2 hC hks
    have HCw2 := Lib.hid hC
    clear hC hks
    go_wp2_with (fail)
    go_ret
    exact ⟨ret_bool (by rw [HR.out]), HG.out.trans HCw2.out⟩
  rcases b2 with _ | _
  · replace HR := Lib.hid (HR.out.trans (by simp : _ = false))
    go_wp2_with (fail)
    clear hW1
    refine wp_region_facts (E := Grows) [valFact (.pointer (some ⟨w.heap.size, 0, none⟩)), valFact (.int .i64 k), valFact (.bool true), valFact (.bool true), valFact (.pointer (some ⟨w.heap.size, 1, none⟩)), valFact (.string ⟨key.toArray⟩), valFact (.bool false), valFact (.bool false), valFact (.bool false), valFact undef, valFact undef, valFact undef, valFact (.bool false), valFact (.bool false), valFact undef, valFact undef, valFact undef, valFact undef, valFact undef, valFact (.bool false), valFact (.bool false)] (by kernel_rfl) (by kernel_rfl) (fun _ _ _ => Grows.trans) (grows_drew _) ?_
    refine f_val (.pointer (some ⟨w.heap.size, 0, none⟩)) (by rfl) ?_ ?_
    · intro w' hC; clear hC; go_simp
    simp only [Act.put, List.setIfInBounds_toArray, List.set_cons_zero, List.set_cons_succ]
    refine f_val (.int .i64 k) (by rfl) ?_ ?_
    · intro w' hC; obtain ⟨z0, z1, z2, z3⟩ := HC.out w' hC; clear hC; first | (go_simp; done)
    simp only [Act.put, List.setIfInBounds_toArray, List.set_cons_zero, List.set_cons_succ]
    refine f_call 24 #[.int .i64 k] (.bool true) (by rfl) (by intro w' hC; clear hC; go_simp) ?_ ?_
    · intro w' hC hks; exact (H1.out w').mono fun e w'' hh => ⟨hh.1, hh.2⟩
    simp only [Act.put, List.setIfInBounds_toArray, List.set_cons_zero, List.set_cons_succ]
    refine f_val (.bool true) (by rfl) ?_ ?_
    · intro w' hC; clear hC; go_simp
    simp only [Act.put, List.setIfInBounds_toArray, List.set_cons_zero, List.set_cons_succ]
    refine f_val (.pointer (some ⟨w.heap.size, 1, none⟩)) (by rfl) ?_ ?_
    · intro w' hC; clear hC; go_simp
    simp only [Act.put, List.setIfInBounds_toArray, List.set_cons_zero, List.set_cons_succ]
    refine f_val (.string ⟨key.toArray⟩) (by rfl) ?_ ?_
    · intro w' hC; obtain ⟨z0, z1, z2, z3⟩ := HC.out w' hC; clear hC; first | (go_simp; done)
    simp only [Act.put, List.setIfInBounds_toArray, List.set_cons_zero, List.set_cons_succ]
    refine f_call 25 #[.string ⟨key.toArray⟩] (.bool false) (by rfl) (by intro w' hC; clear hC; go_simp) ?_ ?_
    · intro w' hC hks; exact (H2.out w').mono fun e w'' hh => ⟨hh.1, hh.2⟩
    simp only [Act.put, List.setIfInBounds_toArray, List.set_cons_zero, List.set_cons_succ]
    refine f_val (.bool false) (by rfl) ?_ ?_
    · intro w' hC; clear hC; go_simp
    simp only [Act.put, List.setIfInBounds_toArray, List.set_cons_zero, List.set_cons_succ]
    refine f_val (.bool false) (by rfl) ?_ ?_
    · intro w' hC; clear hC; go_simp
    simp only [Act.put, List.setIfInBounds_toArray, List.set_cons_zero, List.set_cons_succ]
    refine f_skip (by rfl) ?_
    simp only [Act.put, List.setIfInBounds_toArray, List.set_cons_zero, List.set_cons_succ]
    refine f_skip (by rfl) ?_
    simp only [Act.put, List.setIfInBounds_toArray, List.set_cons_zero, List.set_cons_succ]
    refine f_skip (by rfl) ?_
    simp only [Act.put, List.setIfInBounds_toArray, List.set_cons_zero, List.set_cons_succ]
    refine f_val (.bool false) (by rfl) ?_ ?_
    · intro w' hC; clear hC; go_simp
    simp only [Act.put, List.setIfInBounds_toArray, List.set_cons_zero, List.set_cons_succ]
    refine f_val (.bool false) (by rfl) ?_ ?_
    · intro w' hC; clear hC; go_simp
    simp only [Act.put, List.setIfInBounds_toArray, List.set_cons_zero, List.set_cons_succ]
    refine f_skip (by rfl) ?_
    simp only [Act.put, List.setIfInBounds_toArray, List.set_cons_zero, List.set_cons_succ]
    refine f_skip (by rfl) ?_
    simp only [Act.put, List.setIfInBounds_toArray, List.set_cons_zero, List.set_cons_succ]
    refine f_skip (by rfl) ?_
    simp only [Act.put, List.setIfInBounds_toArray, List.set_cons_zero, List.set_cons_succ]
    refine f_skip (by rfl) ?_
    simp only [Act.put, List.setIfInBounds_toArray, List.set_cons_zero, List.set_cons_succ]
    refine f_skip (by rfl) ?_
    simp only [Act.put, List.setIfInBounds_toArray, List.set_cons_zero, List.set_cons_succ]
    refine f_val (.bool false) (by rfl) ?_ ?_
    · intro w' hC; clear hC; go_simp
    simp only [Act.put, List.setIfInBounds_toArray, List.set_cons_zero, List.set_cons_succ]
    refine f_val (.bool false) (by rfl) ?_ ?_
    · intro w' hC; clear hC; go_simp
    simp only [Act.put, List.setIfInBounds_toArray, List.set_cons_zero, List.set_cons_succ]
    refine wpF_end ?_
    intro w2 hC hks
    have HCw2 := Lib.hid hC
    clear hC hks
    go_wp2_with (fail)
    go_ret
    exact ⟨ret_bool (by rw [HR.out]), HG.out.trans HCw2.out⟩
  rcases b3 with _ | _
  · replace HR := Lib.hid (HR.out.trans (by simp : _ = false))
    go_wp2_with (fail)
    clear hW1
    refine wp_region_facts (E := Grows) [valFact (.pointer (some ⟨w.heap.size, 0, none⟩)), valFact (.int .i64 k), valFact (.bool true), valFact (.bool true), valFact (.pointer (some ⟨w.heap.size, 1, none⟩)), valFact (.string ⟨key.toArray⟩), valFact (.bool true), valFact (.bool true), valFact (.bool true), valFact (.pointer (some ⟨w.heap.size, 2, none⟩)), valFact (.int .i64 a), valFact (.bool false), valFact (.bool false), valFact (.bool false), valFact undef, valFact undef, valFact undef, valFact undef, valFact undef, valFact (.bool false), valFact (.bool false)] (by kernel_rfl) (by kernel_rfl) (fun _ _ _ => Grows.trans) (grows_drew _) ?_
    refine f_val (.pointer (some ⟨w.heap.size, 0, none⟩)) (by rfl) ?_ ?_
    · intro w' hC; clear hC; go_simp
    simp only [Act.put, List.setIfInBounds_toArray, List.set_cons_zero, List.set_cons_succ]
    refine f_val (.int .i64 k) (by rfl) ?_ ?_
    · intro w' hC; obtain ⟨z0, z1, z2, z3⟩ := HC.out w' hC; clear hC; first | (go_simp; done)
    simp only [Act.put, List.setIfInBounds_toArray, List.set_cons_zero, List.set_cons_succ]
    refine f_call 24 #[.int .i64 k] (.bool true) (by rfl) (by intro w' hC; clear hC; go_simp) ?_ ?_
    · intro w' hC hks; exact (H1.out w').mono fun e w'' hh => ⟨hh.1, hh.2⟩
    simp only [Act.put, List.setIfInBounds_toArray, List.set_cons_zero, List.set_cons_succ]
    refine f_val (.bool true) (by rfl) ?_ ?_
    · intro w' hC; clear hC; go_simp
    simp only [Act.put, List.setIfInBounds_toArray, List.set_cons_zero, List.set_cons_succ]
    refine f_val (.pointer (some ⟨w.heap.size, 1, none⟩)) (by rfl) ?_ ?_
    · intro w' hC; clear hC; go_simp
    simp only [Act.put, List.setIfInBounds_toArray, List.set_cons_zero, List.set_cons_succ]
    refine f_val (.string ⟨key.toArray⟩) (by rfl) ?_ ?_
    · intro w' hC; obtain ⟨z0, z1, z2, z3⟩ := HC.out w' hC; clear hC; first | (go_simp; done)
    simp only [Act.put, List.setIfInBounds_toArray, List.set_cons_zero, List.set_cons_succ]
    refine f_call 25 #[.string ⟨key.toArray⟩] (.bool true) (by rfl) (by intro w' hC; clear hC; go_simp) ?_ ?_
    · intro w' hC hks; exact (H2.out w').mono fun e w'' hh => ⟨hh.1, hh.2⟩
    simp only [Act.put, List.setIfInBounds_toArray, List.set_cons_zero, List.set_cons_succ]
    refine f_val (.bool true) (by rfl) ?_ ?_
    · intro w' hC; clear hC; go_simp
    simp only [Act.put, List.setIfInBounds_toArray, List.set_cons_zero, List.set_cons_succ]
    refine f_val (.bool true) (by rfl) ?_ ?_
    · intro w' hC; clear hC; go_simp
    simp only [Act.put, List.setIfInBounds_toArray, List.set_cons_zero, List.set_cons_succ]
    refine f_val (.pointer (some ⟨w.heap.size, 2, none⟩)) (by rfl) ?_ ?_
    · intro w' hC; clear hC; go_simp
    simp only [Act.put, List.setIfInBounds_toArray, List.set_cons_zero, List.set_cons_succ]
    refine f_val (.int .i64 a) (by rfl) ?_ ?_
    · intro w' hC; obtain ⟨z0, z1, z2, z3⟩ := HC.out w' hC; clear hC; first | (go_simp; done)
    simp only [Act.put, List.setIfInBounds_toArray, List.set_cons_zero, List.set_cons_succ]
    refine f_call 30 #[.int .i64 a, .int .i64 0, .int .i64 1073741824] (.bool false) (by rfl) (by intro w' hC; clear hC; go_simp) ?_ ?_
    · intro w' hC hks; exact (H3.out w').mono fun e w'' hh => ⟨hh.1, hh.2⟩
    simp only [Act.put, List.setIfInBounds_toArray, List.set_cons_zero, List.set_cons_succ]
    refine f_val (.bool false) (by rfl) ?_ ?_
    · intro w' hC; clear hC; go_simp
    simp only [Act.put, List.setIfInBounds_toArray, List.set_cons_zero, List.set_cons_succ]
    refine f_val (.bool false) (by rfl) ?_ ?_
    · intro w' hC; clear hC; go_simp
    simp only [Act.put, List.setIfInBounds_toArray, List.set_cons_zero, List.set_cons_succ]
    refine f_skip (by rfl) ?_
    simp only [Act.put, List.setIfInBounds_toArray, List.set_cons_zero, List.set_cons_succ]
    refine f_skip (by rfl) ?_
    simp only [Act.put, List.setIfInBounds_toArray, List.set_cons_zero, List.set_cons_succ]
    refine f_skip (by rfl) ?_
    simp only [Act.put, List.setIfInBounds_toArray, List.set_cons_zero, List.set_cons_succ]
    refine f_skip (by rfl) ?_
    simp only [Act.put, List.setIfInBounds_toArray, List.set_cons_zero, List.set_cons_succ]
    refine f_skip (by rfl) ?_
    simp only [Act.put, List.setIfInBounds_toArray, List.set_cons_zero, List.set_cons_succ]
    refine f_val (.bool false) (by rfl) ?_ ?_
    · intro w' hC; clear hC; go_simp
    simp only [Act.put, List.setIfInBounds_toArray, List.set_cons_zero, List.set_cons_succ]
    refine f_val (.bool false) (by rfl) ?_ ?_
    · intro w' hC; clear hC; go_simp
    simp only [Act.put, List.setIfInBounds_toArray, List.set_cons_zero, List.set_cons_succ]
    refine wpF_end ?_
    intro w2 hC hks
    have HCw2 := Lib.hid hC
    clear hC hks
    go_wp2_with (fail)
    go_ret
    exact ⟨ret_bool (by rw [HR.out]), HG.out.trans HCw2.out⟩
  · replace HR := Lib.hid (HR.out.trans (by simp : _ = b4))
    go_wp2_with (fail)
    clear hW1
    refine wp_region_facts (E := Grows) [valFact (.pointer (some ⟨w.heap.size, 0, none⟩)), valFact (.int .i64 k), valFact (.bool true), valFact (.bool true), valFact (.pointer (some ⟨w.heap.size, 1, none⟩)), valFact (.string ⟨key.toArray⟩), valFact (.bool true), valFact (.bool true), valFact (.bool true), valFact (.pointer (some ⟨w.heap.size, 2, none⟩)), valFact (.int .i64 a), valFact (.bool true), valFact (.bool true), valFact (.bool true), valFact (.pointer (some ⟨w.heap.size, 3, none⟩)), valFact (.int .i64 s), valFact (.int .i64 9), valFact (.int .i64 8200), valFact (.bool b4), valFact (.bool b4), valFact (.bool b4)] (by kernel_rfl) (by kernel_rfl) (fun _ _ _ => Grows.trans) (grows_drew _) ?_
    refine f_val (.pointer (some ⟨w.heap.size, 0, none⟩)) (by rfl) ?_ ?_
    · intro w' hC; clear hC; go_simp
    simp only [Act.put, List.setIfInBounds_toArray, List.set_cons_zero, List.set_cons_succ]
    refine f_val (.int .i64 k) (by rfl) ?_ ?_
    · intro w' hC; obtain ⟨z0, z1, z2, z3⟩ := HC.out w' hC; clear hC; first | (go_simp; done)
    simp only [Act.put, List.setIfInBounds_toArray, List.set_cons_zero, List.set_cons_succ]
    refine f_call 24 #[.int .i64 k] (.bool true) (by rfl) (by intro w' hC; clear hC; go_simp) ?_ ?_
    · intro w' hC hks; exact (H1.out w').mono fun e w'' hh => ⟨hh.1, hh.2⟩
    simp only [Act.put, List.setIfInBounds_toArray, List.set_cons_zero, List.set_cons_succ]
    refine f_val (.bool true) (by rfl) ?_ ?_
    · intro w' hC; clear hC; go_simp
    simp only [Act.put, List.setIfInBounds_toArray, List.set_cons_zero, List.set_cons_succ]
    refine f_val (.pointer (some ⟨w.heap.size, 1, none⟩)) (by rfl) ?_ ?_
    · intro w' hC; clear hC; go_simp
    simp only [Act.put, List.setIfInBounds_toArray, List.set_cons_zero, List.set_cons_succ]
    refine f_val (.string ⟨key.toArray⟩) (by rfl) ?_ ?_
    · intro w' hC; obtain ⟨z0, z1, z2, z3⟩ := HC.out w' hC; clear hC; first | (go_simp; done)
    simp only [Act.put, List.setIfInBounds_toArray, List.set_cons_zero, List.set_cons_succ]
    refine f_call 25 #[.string ⟨key.toArray⟩] (.bool true) (by rfl) (by intro w' hC; clear hC; go_simp) ?_ ?_
    · intro w' hC hks; exact (H2.out w').mono fun e w'' hh => ⟨hh.1, hh.2⟩
    simp only [Act.put, List.setIfInBounds_toArray, List.set_cons_zero, List.set_cons_succ]
    refine f_val (.bool true) (by rfl) ?_ ?_
    · intro w' hC; clear hC; go_simp
    simp only [Act.put, List.setIfInBounds_toArray, List.set_cons_zero, List.set_cons_succ]
    refine f_val (.bool true) (by rfl) ?_ ?_
    · intro w' hC; clear hC; go_simp
    simp only [Act.put, List.setIfInBounds_toArray, List.set_cons_zero, List.set_cons_succ]
    refine f_val (.pointer (some ⟨w.heap.size, 2, none⟩)) (by rfl) ?_ ?_
    · intro w' hC; clear hC; go_simp
    simp only [Act.put, List.setIfInBounds_toArray, List.set_cons_zero, List.set_cons_succ]
    refine f_val (.int .i64 a) (by rfl) ?_ ?_
    · intro w' hC; obtain ⟨z0, z1, z2, z3⟩ := HC.out w' hC; clear hC; first | (go_simp; done)
    simp only [Act.put, List.setIfInBounds_toArray, List.set_cons_zero, List.set_cons_succ]
    refine f_call 30 #[.int .i64 a, .int .i64 0, .int .i64 1073741824] (.bool true) (by rfl) (by intro w' hC; clear hC; go_simp) ?_ ?_
    · intro w' hC hks; exact (H3.out w').mono fun e w'' hh => ⟨hh.1, hh.2⟩
    simp only [Act.put, List.setIfInBounds_toArray, List.set_cons_zero, List.set_cons_succ]
    refine f_val (.bool true) (by rfl) ?_ ?_
    · intro w' hC; clear hC; go_simp
    simp only [Act.put, List.setIfInBounds_toArray, List.set_cons_zero, List.set_cons_succ]
    refine f_val (.bool true) (by rfl) ?_ ?_
    · intro w' hC; clear hC; go_simp
    simp only [Act.put, List.setIfInBounds_toArray, List.set_cons_zero, List.set_cons_succ]
    refine f_val (.pointer (some ⟨w.heap.size, 3, none⟩)) (by rfl) ?_ ?_
    · intro w' hC; clear hC; go_simp
    simp only [Act.put, List.setIfInBounds_toArray, List.set_cons_zero, List.set_cons_succ]
    refine f_val (.int .i64 s) (by rfl) ?_ ?_
    · intro w' hC; obtain ⟨z0, z1, z2, z3⟩ := HC.out w' hC; clear hC; first | (go_simp; done)
    simp only [Act.put, List.setIfInBounds_toArray, List.set_cons_zero, List.set_cons_succ]
    refine f_call 31 #[.int .i64 1] (.int .i64 9) (by rfl) (by intro w' hC; clear hC; go_simp) ?_ ?_
    · intro w' hC hks; exact (fsize_any 1 w' (by omega) (by omega)).mono fun e w'' hh => ⟨hh.1, hh.2 ▸ Below.refl _ _⟩
    simp only [Act.put, List.setIfInBounds_toArray, List.set_cons_zero, List.set_cons_succ]
    refine f_call 31 #[.int .i64 8192] (.int .i64 8200) (by rfl) (by intro w' hC; clear hC; go_simp) ?_ ?_
    · intro w' hC hks; exact (fsize_any 8192 w' (by omega) (by omega)).mono fun e w'' hh => ⟨hh.1, hh.2 ▸ Below.refl _ _⟩
    simp only [Act.put, List.setIfInBounds_toArray, List.set_cons_zero, List.set_cons_succ]
    refine f_call 30 #[.int .i64 s, .int .i64 9, .int .i64 8200] (.bool b4) (by rfl) (by intro w' hC; clear hC; go_simp) ?_ ?_
    · intro w' hC hks; exact (H4.out w').mono fun e w'' hh => ⟨hh.1, hh.2⟩
    simp only [Act.put, List.setIfInBounds_toArray, List.set_cons_zero, List.set_cons_succ]
    refine f_val (.bool b4) (by rfl) ?_ ?_
    · intro w' hC; clear hC; go_simp
    simp only [Act.put, List.setIfInBounds_toArray, List.set_cons_zero, List.set_cons_succ]
    refine f_val (.bool b4) (by rfl) ?_ ?_
    · intro w' hC; clear hC; go_simp
    simp only [Act.put, List.setIfInBounds_toArray, List.set_cons_zero, List.set_cons_succ]
    refine wpF_end ?_
    intro w2 hC hks
    have HCw2 := Lib.hid hC
    clear hC hks
    go_wp2_with (fail)
    go_ret
    exact ⟨ret_bool (by rw [HR.out]), HG.out.trans HCw2.out⟩

set_option maxRecDepth 100000 in
set_option maxHeartbeats 4000000 in
theorem hright_any (A : Option Addr) (n c : Nat) (l : List Ht) (w : World) (h : Hts w A n c l) (hn : n ≤ 4611686018427387904) :
    Calls Try.prog 12 #[.slice A n c] w fun e w' => e = .returned (.bool (rightH l)) ∧ Grows w w' := by
  have HX := Lib.hid h
  have hlen := h.len
  clear h
  go_enter Try.func12, Try.ntmps12
  go_wp2_with (fail)
  go_loopw [3, 8] (fun p i wr => ∃ (j : Nat) (d : List UInt8), j ≤ n ∧ i = .int .i64 (j : Nat) ∧ p = .string ⟨d.toArray⟩ ∧ Hid (rightF [] (l.take j) = true ∧ lastK [] (l.take j) = d) ∧ Hid (Grows w wr)) (fun _ i _ => n - (intOf i).toNat)
  case atStart => exact ⟨0, [], by omega, rfl, rfl, Lib.hid ⟨rfl, rfl⟩, Lib.hid (Below.refl _ _)⟩
  case round =>
    obtain ⟨j, d, hj, rfl, rfl, HJ, HG⟩ := hrel
    by_cases hlt : j < n
    · obtain ⟨ad, x, rfl, hx, hb, hc⟩ := HX.out.at hlt
      have k0 : (0 : Int) ≤ (j : Int) := by omega
      have k1 : (j : Int) < (n : Int) := by omega
      obtain ⟨c0, c1, c2, c3⟩ := hc _ HG.out
      have htk : l.take (j + 1) = l.take j ++ [x] := by rw [List.take_add_one, hx]; rfl
      have HNX := Lib.hid (show rightF [] (l.take (j + 1)) = (aloneB x && bytesBefore d x.key) ∧ lastK [] (l.take (j + 1)) = x.key by
        rw [htk, rightF_append, HJ.out.1, HJ.out.2, lastK_snoc]
        simp [rightF])
      have HAL := Lib.hid (fun w' => alone_any x w')
      have HFAIL := Lib.hid (show rightF [] (l.take (j + 1)) = false → rightH l = false from fun hf => by
        unfold rightH
        rw [← List.take_append_drop (j + 1) l, rightF_append, hf, Bool.false_and])
      obtain ⟨al, hal⟩ : ∃ b, aloneB x = b := ⟨_, rfl⟩
      obtain ⟨bf, hbf⟩ : ∃ b, bytesBefore d x.key = b := ⟨_, rfl⟩
      rw [hal] at HAL
      rw [hal, hbf] at HNX
      have hm := Whole.made wr 35 #[.int .i64 x.kind, .string ⟨x.key.toArray⟩, .int .i64 x.at_, .int .i64 x.size]
      have hg1 := grows_alloc wr (.cells #[.int .i64 x.kind, .string ⟨x.key.toArray⟩, .int .i64 x.at_, .int .i64 x.size] 35)
      obtain ⟨W1, hW1⟩ : ∃ y, wr.alloc (.cells #[.int .i64 x.kind, .string ⟨x.key.toArray⟩, .int .i64 x.at_, .int .i64 x.size] 35) = y := ⟨_, rfl⟩
      rw [hW1] at hm hg1
      have m0 := hm.cell 0
      have m1 := hm.cell 1
      have m2 := hm.cell 2
      have m3 := hm.cell 3
      simp only [List.getElem?_toArray, List.getElem?_cons_zero, List.getElem?_cons_succ] at m0 m1 m2 m3
      have HM := Lib.hid (And.intro hm (HG.out.trans hg1))
      have HBF := Lib.hid hbf
      clear hc hx hb htk hm hg1 hal hbf
      go_wp2_with (fail)
      refine (HAL.out W1).mono ?_
      rintro e w2 ⟨rfl, hg2⟩
      have hm2 := hg2.whole HM.out.1
      have p0 := hm2.cell 0
      have p1 := hm2.cell 1
      simp only [List.getElem?_toArray, List.getElem?_cons_zero, List.getElem?_cons_succ] at p0 p1
      have HG2 := Lib.hid (HM.out.2.trans hg2)
      clear hm2 hg2 hW1 m0 m1 m2 m3
      cases al
      · go_wp2_with (fail)
        go_ret
        exact ⟨ret_bool (HFAIL.out (by rw [HNX.out.1]; rfl)).symm, HG2.out⟩
      go_wp2_with (fail)
      · rename_i hno
        go_ret
        exact ⟨ret_bool (HFAIL.out (by rw [HNX.out.1, ← HBF.out, not_later hno]; rfl)).symm, HG2.out⟩
      · rename_i hyes
        have HY := Lib.hid (is_later hyes)
        go_roundw
        case rel => exact ⟨j + 1, x.key, by omega, by go_num, rfl, Lib.hid ⟨by rw [HNX.out.1, ← HBF.out, HY.out]; rfl, HNX.out.2⟩, HG2⟩
        case measure => simp [intOf]; omega
    · obtain rfl : j = n := by omega
      have HE := Lib.hid (show rightH l = true by
        have := HJ.out.1
        rw [List.take_of_length_le (by omega)] at this
        exact this)
      go_wp2_with (fail)
      go_ret
      exact ⟨ret_bool HE.out.symm, HG.out⟩
end Go.Proofs.Ytdjlhdeejpndcaa

