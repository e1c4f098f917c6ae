/-
  book's dead, and Less of its heap.
-/
import Derived.Test.YtlldcogkcjnejaaBkAll
namespace Go.Proofs.Ytlldcogkcjnejaa
open Go.RowKit Go.Shelf Go.Maps Go.Sort
set_option linter.unusedVariables false
set_option linter.unusedSimpArgs false
attribute [local irreducible] wpF

/-- In bounds. -/
def FitU (x : Us) : Prop := 0 ≤ x.live ∧ x.live ≤ x.all ∧ x.all ≤ 1125899906842624
theorem dead_any {x : Us} (hx : FitU x) (w : World) : Calls Try.prog 83 #[usV x] w fun e w' => e = .returned (.int .i64 (deadU x)) ∧ Grows w w' := by
  obtain ⟨x0, x1, x2⟩ := x
  obtain ⟨h1, h2, h3⟩ := hx
  dsimp only at h1 h2 h3
  show Calls _ _ #[.agg #[.int .i64 x0, .int .i64 x1, .int .i64 x2]] _ _
  obtain ⟨w1, w2⟩ := wrapI (x := x1 - x2) (by omega) (by omega)
  obtain ⟨d, hd⟩ : ∃ d, x1 - x2 = d := ⟨_, rfl⟩
  show Calls _ _ _ _ fun e w' => e = .returned (.int .i64 (x1 - x2)) ∧ _
  rw [hd] at w1 w2 ⊢
  clear h1 h2 h3
  go_enter Try.func83, Try.ntmps83
  go_wp2_with (fail)
  go_ret
  exact ⟨rfl, grows_alloc _ _⟩
theorem ltU_gt {x y : Us} (h : deadU y < deadU x) : ltU x y = true := decide_eq_true (.inl h)
theorem ltU_eq {x y : Us} (h : deadU x = deadU y) : ltU x y = decide (x.seg < y.seg) := by
  unfold ltU
  by_cases h2 : x.seg < y.seg
  · rw [decide_eq_true h2]; exact decide_eq_true (.inr ⟨h, h2⟩)
  · rw [decide_eq_false h2]; exact decide_eq_false (by omega)
theorem ltU_lt {x y : Us} (h : deadU x < deadU y) : ltU x y = false := decide_eq_false (by omega)
set_option maxRecDepth 100000 in
set_option maxHeartbeats 4000000 in
theorem less_any (A : Option Addr) (n c : Nat) (l : List Us) (w : World) (h : Uss w A n c l) (hl : ∀ x ∈ l, FitU x) (i j : Nat) (hi : i < n) (hj : j < n) (hn : n ≤ 1000000) :
    Calls Try.prog 79 #[.slice A n c, .int .i64 (i : Int), .int .i64 (j : Int)] w fun e w' => e = .returned (.bool (ltU l[i]! l[j]!)) ∧ Grows w w' := by
  obtain ⟨ad, x, rfl, hx, hb, hcx⟩ := h.at hi
  obtain ⟨ad', y, e1, hy, _, hcy⟩ := h.at hj
  injection e1 with e1
  subst e1
  have hfx := hl x (List.mem_of_getElem? hx)
  have hfy := hl y (List.mem_of_getElem? hy)
  have ex : l[i]! = x := by rw [getElem!_def, hx]
  have ey : l[j]! = y := by rw [getElem!_def, hy]
  rw [ex, ey]
  clear ex ey hx hy hl
  obtain ⟨dx, hdx⟩ : ∃ d, deadU x = d := ⟨_, rfl⟩
  obtain ⟨dy, hdy⟩ : ∃ d, deadU y = d := ⟨_, rfl⟩
  have HDX := Lib.hid (fun w => hdx ▸ dead_any hfx w)
  have HDY := Lib.hid (fun w => hdy ▸ dead_any hfy w)
  have HX := Lib.hid hcx
  have HY := Lib.hid hcy
  have k0 : (0 : Int) ≤ (i : Int) := by omega
  have k1 : (i : Int) < (n : Int) := by omega
  have k2 : (0 : Int) ≤ (j : Int) := by omega
  have k3 : (j : Int) < (n : Int) := by omega
  have HI := Lib.hid (And.intro k0 (And.intro k1 (And.intro k2 k3)))
  obtain ⟨t, ht⟩ : ∃ t, ltU x y = t := ⟨_, rfl⟩
  rw [ht]
  have HT := Lib.hid (And.intro ht (And.intro hdx hdy))
  obtain ⟨x0, x1, x2⟩ := x
  obtain ⟨y0, y1, y2⟩ := y
  dsimp only [usV] at HDX HDY
  clear hcx hcy hfx hfy h hb hdx hdy ht
  go_enter Try.func79, Try.ntmps79
  go_wp2_with (fail)
  refine wp_region_facts (E := Grows) [valFact (.slice (some ad) n c), valFact (.int .i64 (i : Int)), valFact (.pointer (some (ad.add (i * 3)))), valFact (.agg #[.int .i64 x0, .int .i64 x1, .int .i64 x2]), valFact (.int .i64 dx), valFact (.slice (some ad) n c), valFact (.int .i64 (j : Int)), valFact (.pointer (some (ad.add (j * 3)))), valFact (.agg #[.int .i64 y0, .int .i64 y1, .int .i64 y2]), valFact (.int .i64 dy), valFact (.int .i64 dx), valFact (.int .i64 dy)] (by kernel_rfl) (by kernel_rfl) (fun _ _ _ => Grows.trans) (grows_drew _) ?_
  refine f_val (.slice (some ad) n c) (by rfl) ?_ ?_
  · intro w' hC; clear hC; go_simp
  simp only [Act.put, List.setIfInBounds_toArray, List.set_cons_zero, List.set_cons_succ]
  refine f_val (.int .i64 (i : Int)) (by rfl) ?_ ?_
  · intro w' hC; clear hC; go_simp
  simp only [Act.put, List.setIfInBounds_toArray, List.set_cons_zero, List.set_cons_succ]
  refine f_val (.pointer (some (ad.add (i * 3)))) (by rfl) ?_ ?_
  · intro w' hC; have k0 := HI.out; clear hC; go_simp
  simp only [Act.put, List.setIfInBounds_toArray, List.set_cons_zero, List.set_cons_succ]
  refine f_val (.agg #[.int .i64 x0, .int .i64 x1, .int .i64 x2]) (by rfl) ?_ ?_
  · intro w' hC; have q := HX.out w' hC; have q0 := q.1; have q1 := q.2.1; have q2 := q.2.2; clear hC; go_simp
  simp only [Act.put, List.setIfInBounds_toArray, List.set_cons_zero, List.set_cons_succ]
  refine f_call 83 #[.agg #[.int .i64 x0, .int .i64 x1, .int .i64 x2]] (.int .i64 dx) (by rfl) (by intro w' hC; clear hC; go_simp) ?_ ?_
  · intro w' hC _; exact HDX.out w'
  simp only [Act.put, List.setIfInBounds_toArray, List.set_cons_zero, List.set_cons_succ]
  refine f_val (.slice (some ad) n c) (by rfl) ?_ ?_
  · intro w' hC; clear hC; go_simp
  simp only [Act.put, List.setIfInBounds_toArray, List.set_cons_zero, List.set_cons_succ]
  refine f_val (.int .i64 (j : Int)) (by rfl) ?_ ?_
  · intro w' hC; clear hC; go_simp
  simp only [Act.put, List.setIfInBounds_toArray, List.set_cons_zero, List.set_cons_succ]
  refine f_val (.pointer (some (ad.add (j * 3)))) (by rfl) ?_ ?_
  · intro w' hC; have k0 := HI.out; clear hC; go_simp
  simp only [Act.put, List.setIfInBounds_toArray, List.set_cons_zero, List.set_cons_succ]
  refine f_val (.agg #[.int .i64 y0, .int .i64 y1, .int .i64 y2]) (by rfl) ?_ ?_
  · intro w' hC; have q := HY.out w' hC; have q0 := q.1; have q1 := q.2.1; have q2 := q.2.2; clear hC; go_simp
  simp only [Act.put, List.setIfInBounds_toArray, List.set_cons_zero, List.set_cons_succ]
  refine f_call 83 #[.agg #[.int .i64 y0, .int .i64 y1, .int .i64 y2]] (.int .i64 dy) (by rfl) (by intro w' hC; clear hC; go_simp) ?_ ?_
  · intro w' hC _; exact HDY.out w'
  simp only [Act.put, List.setIfInBounds_toArray, List.set_cons_zero, List.set_cons_succ]
  refine f_val (.int .i64 dx) (by rfl) ?_ ?_
  · intro w' hC; clear hC; go_simp
  simp only [Act.put, List.setIfInBounds_toArray, List.set_cons_zero, List.set_cons_succ]
  refine f_val (.int .i64 dy) (by rfl) ?_ ?_
  · intro w' hC; clear hC; go_simp
  simp only [Act.put, List.setIfInBounds_toArray, List.set_cons_zero, List.set_cons_succ]
  refine wpF_end ?_
  intro w1 hC hks
  have HCw1 := Lib.hid hC
  clear hC hks
  by_cases hgt : dy < dx
  · have HC0 := Lib.hid hgt
    clear hgt
    go_wp2_with (fail)
    refine wp_region_facts (E := Grows) [valFact (.int .i64 dx), valFact (.int .i64 dy), valFact (.bool true), valFact (.bool true), valFact undef, valFact undef, valFact undef, valFact undef, valFact undef, valFact undef, valFact undef, valFact undef, valFact undef, valFact undef, valFact undef, valFact undef, valFact undef, valFact undef, valFact undef, valFact undef, valFact (.bool true), valFact (.bool true)] (by kernel_rfl) (by kernel_rfl) (fun _ _ _ => Grows.trans) (grows_drew _) ?_
    refine f_val (.int .i64 dx) (by rfl) ?_ ?_
    · intro w' hC; clear hC; go_simp
    simp only [Act.put, List.setIfInBounds_toArray, List.set_cons_zero, List.set_cons_succ]
    refine f_val (.int .i64 dy) (by rfl) ?_ ?_
    · intro w' hC; clear hC; go_simp
    simp only [Act.put, List.setIfInBounds_toArray, List.set_cons_zero, List.set_cons_succ]
    refine f_val (.bool true) (by rfl) ?_ ?_
    · intro w' hC; have k0 := HC0.out; clear hC; go_simp
    simp only [Act.put, List.setIfInBounds_toArray, List.set_cons_zero, List.set_cons_succ]
    refine f_val (.bool true) (by rfl) ?_ ?_
    · intro w' hC; clear hC; go_simp
    simp only [Act.put, List.setIfInBounds_toArray, List.set_cons_zero, List.set_cons_succ]
    refine f_skip (by rfl) ?_
    simp only [Act.put, List.setIfInBounds_toArray, List.set_cons_zero, List.set_cons_succ]
    refine f_skip (by rfl) ?_
    simp only [Act.put, List.setIfInBounds_toArray, List.set_cons_zero, List.set_cons_succ]
    refine f_skip (by rfl) ?_
    simp only [Act.put, List.setIfInBounds_toArray, List.set_cons_zero, List.set_cons_succ]
    refine f_skip (by rfl) ?_
    simp only [Act.put, List.setIfInBounds_toArray, List.set_cons_zero, List.set_cons_succ]
    refine f_skip (by rfl) ?_
    simp only [Act.put, List.setIfInBounds_toArray, List.set_cons_zero, List.set_cons_succ]
    refine f_skip (by rfl) ?_
    simp only [Act.put, List.setIfInBounds_toArray, List.set_cons_zero, List.set_cons_succ]
    refine f_skip (by rfl) ?_
    simp only [Act.put, List.setIfInBounds_toArray, List.set_cons_zero, List.set_cons_succ]
    refine f_skip (by rfl) ?_
    simp only [Act.put, List.setIfInBounds_toArray, List.set_cons_zero, List.set_cons_succ]
    refine f_skip (by rfl) ?_
    simp only [Act.put, List.setIfInBounds_toArray, List.set_cons_zero, List.set_cons_succ]
    refine f_skip (by rfl) ?_
    simp only [Act.put, List.setIfInBounds_toArray, List.set_cons_zero, List.set_cons_succ]
    refine f_skip (by rfl) ?_
    simp only [Act.put, List.setIfInBounds_toArray, List.set_cons_zero, List.set_cons_succ]
    refine f_skip (by rfl) ?_
    simp only [Act.put, List.setIfInBounds_toArray, List.set_cons_zero, List.set_cons_succ]
    refine f_skip (by rfl) ?_
    simp only [Act.put, List.setIfInBounds_toArray, List.set_cons_zero, List.set_cons_succ]
    refine f_skip (by rfl) ?_
    simp only [Act.put, List.setIfInBounds_toArray, List.set_cons_zero, List.set_cons_succ]
    refine f_skip (by rfl) ?_
    simp only [Act.put, List.setIfInBounds_toArray, List.set_cons_zero, List.set_cons_succ]
    refine f_skip (by rfl) ?_
    simp only [Act.put, List.setIfInBounds_toArray, List.set_cons_zero, List.set_cons_succ]
    refine f_val (.bool true) (by rfl) ?_ ?_
    · intro w' hC; clear hC; go_simp
    simp only [Act.put, List.setIfInBounds_toArray, List.set_cons_zero, List.set_cons_succ]
    refine f_val (.bool true) (by rfl) ?_ ?_
    · intro w' hC; clear hC; go_simp
    simp only [Act.put, List.setIfInBounds_toArray, List.set_cons_zero, List.set_cons_succ]
    refine wpF_end ?_
    intro w2 hC hks
    have HCw2 := Lib.hid hC
    clear hC hks
    go_wp2_with (fail)
    go_ret
    refine ⟨?_, Grows.trans HCw1.out HCw2.out⟩
    rw [← HT.out.1, ltU_gt (by rw [HT.out.2.1, HT.out.2.2]; exact HC0.out)]
    rfl
  by_cases heq : dx = dy
  · have HC0 := Lib.hid (And.intro hgt heq)
    clear hgt heq
    go_wp2_with (fail)
    refine wp_region_facts (E := Grows) [valFact (.int .i64 dx), valFact (.int .i64 dy), valFact (.bool false), valFact (.bool false), valFact (.int .i64 dx), valFact (.int .i64 dy), valFact (.bool true), valFact (.bool true), valFact (.slice (some ad) n c), valFact (.int .i64 (i : Int)), valFact (.pointer (some (ad.add (i * 3)))), valFact (.pointer (some (ad.add (i * 3)))), valFact (.int .i64 x0), valFact (.slice (some ad) n c), valFact (.int .i64 (j : Int)), valFact (.pointer (some (ad.add (j * 3)))), valFact (.pointer (some (ad.add (j * 3)))), valFact (.int .i64 y0), valFact (.bool (decide (x0 < y0))), valFact (.bool (decide (x0 < y0))), valFact (.bool (decide (x0 < y0))), valFact (.bool (decide (x0 < y0)))] (by kernel_rfl) (by kernel_rfl) (fun _ _ _ => Grows.trans) (grows_drew _) ?_
    refine f_val (.int .i64 dx) (by rfl) ?_ ?_
    · intro w' hC; clear hC; go_simp
    simp only [Act.put, List.setIfInBounds_toArray, List.set_cons_zero, List.set_cons_succ]
    refine f_val (.int .i64 dy) (by rfl) ?_ ?_
    · intro w' hC; clear hC; go_simp
    simp only [Act.put, List.setIfInBounds_toArray, List.set_cons_zero, List.set_cons_succ]
    refine f_val (.bool false) (by rfl) ?_ ?_
    · intro w' hC; have k0 := HC0.out; clear hC; go_simp
    simp only [Act.put, List.setIfInBounds_toArray, List.set_cons_zero, List.set_cons_succ]
    refine f_val (.bool false) (by rfl) ?_ ?_
    · intro w' hC; clear hC; go_simp
    simp only [Act.put, List.setIfInBounds_toArray, List.set_cons_zero, List.set_cons_succ]
    refine f_val (.int .i64 dx) (by rfl) ?_ ?_
    · intro w' hC; clear hC; go_simp
    simp only [Act.put, List.setIfInBounds_toArray, List.set_cons_zero, List.set_cons_succ]
    refine f_val (.int .i64 dy) (by rfl) ?_ ?_
    · intro w' hC; clear hC; go_simp
    simp only [Act.put, List.setIfInBounds_toArray, List.set_cons_zero, List.set_cons_succ]
    refine f_val (.bool true) (by rfl) ?_ ?_
    · intro w' hC; have k0 := HC0.out; clear hC; go_simp
    simp only [Act.put, List.setIfInBounds_toArray, List.set_cons_zero, List.set_cons_succ]
    refine f_val (.bool true) (by rfl) ?_ ?_
    · intro w' hC; clear hC; go_simp
    simp only [Act.put, List.setIfInBounds_toArray, List.set_cons_zero, List.set_cons_succ]
    refine f_val (.slice (some ad) n c) (by rfl) ?_ ?_
    · intro w' hC; clear hC; go_simp
    simp only [Act.put, List.setIfInBounds_toArray, List.set_cons_zero, List.set_cons_succ]
    refine f_val (.int .i64 (i : Int)) (by rfl) ?_ ?_
    · intro w' hC; clear hC; go_simp
    simp only [Act.put, List.setIfInBounds_toArray, List.set_cons_zero, List.set_cons_succ]
    refine f_val (.pointer (some (ad.add (i * 3)))) (by rfl) ?_ ?_
    · intro w' hC; have k0 := HI.out; clear hC; go_simp
    simp only [Act.put, List.setIfInBounds_toArray, List.set_cons_zero, List.set_cons_succ]
    refine f_val (.pointer (some (ad.add (i * 3)))) (by rfl) ?_ ?_
    · intro w' hC; clear hC; go_simp
    simp only [Act.put, List.setIfInBounds_toArray, List.set_cons_zero, List.set_cons_succ]
    refine f_val (.int .i64 x0) (by rfl) ?_ ?_
    · intro w' hC; have q := HX.out w' (Grows.trans HCw1.out hC); have q0 := q.1; clear hC; go_simp
    simp only [Act.put, List.setIfInBounds_toArray, List.set_cons_zero, List.set_cons_succ]
    refine f_val (.slice (some ad) n c) (by rfl) ?_ ?_
    · intro w' hC; clear hC; go_simp
    simp only [Act.put, List.setIfInBounds_toArray, List.set_cons_zero, List.set_cons_succ]
    refine f_val (.int .i64 (j : Int)) (by rfl) ?_ ?_
    · intro w' hC; clear hC; go_simp
    simp only [Act.put, List.setIfInBounds_toArray, List.set_cons_zero, List.set_cons_succ]
    refine f_val (.pointer (some (ad.add (j * 3)))) (by rfl) ?_ ?_
    · intro w' hC; have k0 := HI.out; clear hC; go_simp
    simp only [Act.put, List.setIfInBounds_toArray, List.set_cons_zero, List.set_cons_succ]
    refine f_val (.pointer (some (ad.add (j * 3)))) (by rfl) ?_ ?_
    · intro w' hC; clear hC; go_simp
    simp only [Act.put, List.setIfInBounds_toArray, List.set_cons_zero, List.set_cons_succ]
    refine f_val (.int .i64 y0) (by rfl) ?_ ?_
    · intro w' hC; have q := HY.out w' (Grows.trans HCw1.out hC); have q0 := q.1; clear hC; go_simp
    simp only [Act.put, List.setIfInBounds_toArray, List.set_cons_zero, List.set_cons_succ]
    refine f_val (.bool (decide (x0 < y0))) (by rfl) ?_ ?_
    · intro w' hC; clear hC; go_simp
    simp only [Act.put, List.setIfInBounds_toArray, List.set_cons_zero, List.set_cons_succ]
    refine f_val (.bool (decide (x0 < y0))) (by rfl) ?_ ?_
    · intro w' hC; clear hC; go_simp
    simp only [Act.put, List.setIfInBounds_toArray, List.set_cons_zero, List.set_cons_succ]
    refine f_val (.bool (decide (x0 < y0))) (by rfl) ?_ ?_
    · intro w' hC; clear hC; go_simp
    simp only [Act.put, List.setIfInBounds_toArray, List.set_cons_zero, List.set_cons_succ]
    refine f_val (.bool (decide (x0 < y0))) (by rfl) ?_ ?_
    · intro w' hC; clear hC; go_simp
    simp only [Act.put, List.setIfInBounds_toArray, List.set_cons_zero, List.set_cons_succ]
    refine wpF_end ?_
    intro w2 hC hks
    have HCw2 := Lib.hid hC
    clear hC hks
    go_wp2_with (fail)
    go_ret
    refine ⟨?_, Grows.trans HCw1.out HCw2.out⟩
    rw [← HT.out.1, ltU_eq (by rw [HT.out.2.1, HT.out.2.2]; exact HC0.out.2)]
    rfl
  · have HC0 := Lib.hid (And.intro hgt heq)
    clear hgt heq
    go_wp2_with (fail)
    refine wp_region_facts (E := Grows) [valFact (.int .i64 dx), valFact (.int .i64 dy), valFact (.bool false), valFact (.bool false), valFact (.int .i64 dx), valFact (.int .i64 dy), valFact (.bool false), valFact (.bool false), valFact undef, valFact undef, valFact undef, valFact undef, valFact undef, valFact undef, valFact undef, valFact undef, valFact undef, valFact undef, valFact undef, valFact (.bool false), valFact (.bool false), valFact (.bool false)] (by kernel_rfl) (by kernel_rfl) (fun _ _ _ => Grows.trans) (grows_drew _) ?_
    refine f_val (.int .i64 dx) (by rfl) ?_ ?_
    · intro w' hC; clear hC; go_simp
    simp only [Act.put, List.setIfInBounds_toArray, List.set_cons_zero, List.set_cons_succ]
    refine f_val (.int .i64 dy) (by rfl) ?_ ?_
    · intro w' hC; clear hC; go_simp
    simp only [Act.put, List.setIfInBounds_toArray, List.set_cons_zero, List.set_cons_succ]
    refine f_val (.bool false) (by rfl) ?_ ?_
    · intro w' hC; have k0 := HC0.out; clear hC; go_simp
    simp only [Act.put, List.setIfInBounds_toArray, List.set_cons_zero, List.set_cons_succ]
    refine f_val (.bool false) (by rfl) ?_ ?_
    · intro w' hC; clear hC; go_simp
    simp only [Act.put, List.setIfInBounds_toArray, List.set_cons_zero, List.set_cons_succ]
    refine f_val (.int .i64 dx) (by rfl) ?_ ?_
    · intro w' hC; clear hC; go_simp
    simp only [Act.put, List.setIfInBounds_toArray, List.set_cons_zero, List.set_cons_succ]
    refine f_val (.int .i64 dy) (by rfl) ?_ ?_
    · intro w' hC; clear hC; go_simp
    simp only [Act.put, List.setIfInBounds_toArray, List.set_cons_zero, List.set_cons_succ]
    refine f_val (.bool false) (by rfl) ?_ ?_
    · intro w' hC; have k0 := HC0.out; clear hC; go_simp
    simp only [Act.put, List.setIfInBounds_toArray, List.set_cons_zero, List.set_cons_succ]
    refine f_val (.bool false) (by rfl) ?_ ?_
    · intro w' hC; clear hC; go_simp
    simp only [Act.put, List.setIfInBounds_toArray, List.set_cons_zero, List.set_cons_succ]
    refine f_skip (by rfl) ?_
    simp only [Act.put, List.setIfInBounds_toArray, List.set_cons_zero, List.set_cons_succ]
    refine f_skip (by rfl) ?_
    simp only [Act.put, List.setIfInBounds_toArray, List.set_cons_zero, List.set_cons_succ]
    refine f_skip (by rfl) ?_
    simp only [Act.put, List.setIfInBounds_toArray, List.set_cons_zero, List.set_cons_succ]
    refine f_skip (by rfl) ?_
    simp only [Act.put, List.setIfInBounds_toArray, List.set_cons_zero, List.set_cons_succ]
    refine f_skip (by rfl) ?_
    simp only [Act.put, List.setIfInBounds_toArray, List.set_cons_zero, List.set_cons_succ]
    refine f_skip (by rfl) ?_
    simp only [Act.put, List.setIfInBounds_toArray, List.set_cons_zero, List.set_cons_succ]
    refine f_skip (by rfl) ?_
    simp only [Act.put, List.setIfInBounds_toArray, List.set_cons_zero, List.set_cons_succ]
    refine f_skip (by rfl) ?_
    simp only [Act.put, List.setIfInBounds_toArray, List.set_cons_zero, List.set_cons_succ]
    refine f_skip (by rfl) ?_
    simp only [Act.put, List.setIfInBounds_toArray, List.set_cons_zero, List.set_cons_succ]
    refine f_skip (by rfl) ?_
    simp only [Act.put, List.setIfInBounds_toArray, List.set_cons_zero, List.set_cons_succ]
    refine f_skip (by rfl) ?_
    simp only [Act.put, List.setIfInBounds_toArray, List.set_cons_zero, List.set_cons_succ]
    refine f_val (.bool false) (by rfl) ?_ ?_
    · intro w' hC; clear hC; go_simp
    simp only [Act.put, List.setIfInBounds_toArray, List.set_cons_zero, List.set_cons_succ]
    refine f_val (.bool false) (by rfl) ?_ ?_
    · intro w' hC; clear hC; go_simp
    simp only [Act.put, List.setIfInBounds_toArray, List.set_cons_zero, List.set_cons_succ]
    refine f_val (.bool false) (by rfl) ?_ ?_
    · intro w' hC; clear hC; go_simp
    simp only [Act.put, List.setIfInBounds_toArray, List.set_cons_zero, List.set_cons_succ]
    refine wpF_end ?_
    intro w2 hC hks
    have HCw2 := Lib.hid hC
    clear hC hks
    go_wp2_with (fail)
    go_ret
    refine ⟨?_, Grows.trans HCw1.out HCw2.out⟩
    rw [← HT.out.1, ltU_lt (by rw [HT.out.2.1, HT.out.2.2]; have := HC0.out; omega)]
    rfl
end Go.Proofs.Ytlldcogkcjnejaa
