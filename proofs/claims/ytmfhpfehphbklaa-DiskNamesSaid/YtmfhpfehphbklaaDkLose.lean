/-
  What power leaves of a file.
-/
import Derived.Test.YtmfhpfehphbklaaDkList
import Derived.Test.YtmfhpfehphbklaaInts
namespace Go.Proofs.Ytmfhpfehphbklaa
open Go.RowKit Go.Maps Go.WideMaps
set_option linter.unusedVariables false
set_option linter.unusedSimpArgs false
attribute [local irreducible] Go.wpQuiet

/-- How many bytes are there then. -/
def left (l : List Int) (made n kept : Nat) : Nat := kept + (min (max (more l made) 0) ((n : Int) - kept)).toNat
theorem left_le (l : List Int) (made : Nat) {n kept : Nat} (h : kept ≤ n) : left l made n kept ≤ n ∧ kept ≤ left l made n kept := by
  unfold left
  omega

set_option maxHeartbeats 8000000 in
set_option maxRecDepth 100000 in
/-- The list is asked for a number: behind it. -/
theorem lose_behind {w : World} {b md n0 c0 kp : Nat} {A0 : Option Addr} {l : List Int} {A : Option Addr} {n c : Nat} (h : Whole w b 98 #[.int .i64 (md : Int), .slice A0 n0 c0, .int .i64 (kp : Int)]) (hk : kp ≤ n0) (hc : n0 ≤ c0) (hb : A0 = none → c0 = 0) (hn0 : n0 ≤ 1000000000)
    (hI : Ints w A n c l) (hmd : md ≤ 1000000000) (hl : ∀ x ∈ l, -9223372036854775808 ≤ x ∧ x ≤ 9223372036854775807) :
    Calls Try.prog 60 #[.pointer (some ⟨b, 0, none⟩), .slice A n c] w fun e w' => e = .returned (.tuple #[]) ∧ Whole w' b 98 #[.int .i64 (md : Int), .slice A0 (left l md n0 kp) c0, .int .i64 (left l md n0 kp : Nat)] ∧ Spares (fun k => k = b) w w' := by
  obtain ⟨n1, hn1⟩ : ∃ n1, left l md n0 kp = n1 := ⟨_, rfl⟩
  have hle := left_le l md hk
  rw [hn1] at hle ⊢
  have HCL := Lib.hid (show ∀ w', Grows w w' → w'.cell? ⟨b, 0, none⟩ = some (.int .i64 (md : Int)) ∧ w'.cell? ⟨b, 1, none⟩ = some (.slice A0 n0 c0) ∧ w'.cell? ⟨b, 2, none⟩ = some (.int .i64 (kp : Int)) from fun w' hg => ⟨hg.cellq h, hg.cellq h, hg.cellq h⟩)
  have c0' := (HCL.out w (Grows.refl w)).1
  have HW := Lib.hid h
  have e1 : IntKind.i64.wrap ((n0 : Int) - (kp : Int)) = (n0 : Int) - kp := IntWalk.i64_in _ (by omega)
  have hmr : -9223372036854775808 ≤ more l md ∧ more l md ≤ 9223372036854775807 := by
    unfold more
    split
    · omega
    · rename_i h0
      have hlt : md % l.length < l.length := Nat.mod_lt _ (by omega)
      rw [List.getD_eq_getElem?_getD, List.getElem?_eq_getElem hlt]
      exact hl _ (List.getElem_mem hlt)
  have e2 : IntKind.i64.wrap ((kp : Int) + min (max (more l md) 0) ((n0 : Int) - kp)) = (n1 : Int) := by
    rw [IntWalk.i64_in _ (by omega), ← hn1]
    unfold left
    omega
  have q1 : n1 ≤ c0 := by omega
  have HB := Lib.hid (And.intro hb (And.intro hle (And.intro hk hc)))
  have HMI := Lib.hid hI
  have HM := Lib.hid (And.intro hmd hl)
  -- the two ways
  rcases Nat.eq_zero_or_pos n with hz | hz
  · subst hz
    have hl0 : l = [] := List.eq_nil_of_length_eq_zero hI.len
    have em : more l md = 0 := by rw [hl0]; rfl
    rw [em, show max (0 : Int) 0 = 0 from rfl] at e2
    clear h hk hc hb hn0 hI hmd hl hn1 hle hl0 em hmr
    go_enter Try.func60, Try.ntmps60
    go_wp2_with (fail)
    refine q_region mixed (by kernel_rfl) ?_
    iterate 14 (refine q_op' (v := ?_) (a' := ?_) (by rfl) ?_ ?_ ?_
                rotate_left 2
                · intro w' hC
                  obtain ⟨z0, z1, z2⟩ := HCL.out w' hC
                  clear hC
                  go_simp
                  try with_reducible rfl
                · simp only [Act.put, List.setIfInBounds_toArray, List.set_cons_zero, List.set_cons_succ]
                  try rfl)
    refine wpQuiet_nil ?_
    intro w2 hC
    have HCw2 := Lib.hid hC
    clear hC
    go_wp2_with (fail)
    have HC4 := Lib.hid (fun w' (hg : Grows w2 w') => HCL.out w' (HCw2.out.trans hg))
    generalize min (0 : Int) ((n0 : Int) - (kp : Int)) = g0 at *
    have q0 : (0 : Int) ≤ (n1 : Int) := by omega
    have q2 : (n1 : Int) ≤ (c0 : Int) := by omega
    refine wp_region_facts_tail (E := Grows) 14 [valFact (.pointer (some ⟨b, 0, none⟩)), valFact (.pointer (some ⟨b, 0, none⟩)), valFact (.pointer (some ⟨b, 0, none⟩)), valFact (.pointer (some ⟨b, 1, none⟩)), valFact (.slice A0 n0 c0), valFact (.pointer (some ⟨b, 0, none⟩)), valFact (.pointer (some ⟨b, 0, none⟩)), valFact (.pointer (some ⟨b, 2, none⟩)), valFact (.int .i64 (kp : Int)), valFact (.int .i64 g0), valFact (.int .i64 (n1 : Int)), valFact (.slice A0 n1 c0), valFact (.pointer (some ⟨b, 0, none⟩)), valFact (.pointer (some ⟨b, 1, none⟩))] mixed (by kernel_rfl) (fun _ _ _ => Grows.trans) (grows_drew _) ?_
    simp only [List.take_succ_cons, List.take_zero, List.drop_succ_cons, List.drop_zero]
    refine f_val (.pointer (some ⟨b, 0, none⟩)) (by rfl) ?_ ?_
    · intro w' hC; obtain ⟨z0, z1, z2⟩ := HC4.out w' hC; clear hC; go_simp
    simp only [Act.put, List.setIfInBounds_toArray, List.set_cons_zero, List.set_cons_succ]
    refine f_val (.pointer (some ⟨b, 0, none⟩)) (by rfl) ?_ ?_
    · intro w' hC; obtain ⟨z0, z1, z2⟩ := HC4.out w' hC; clear hC; go_simp
    simp only [Act.put, List.setIfInBounds_toArray, List.set_cons_zero, List.set_cons_succ]
    refine f_val (.pointer (some ⟨b, 0, none⟩)) (by rfl) ?_ ?_
    · intro w' hC; obtain ⟨z0, z1, z2⟩ := HC4.out w' hC; clear hC; go_simp
    simp only [Act.put, List.setIfInBounds_toArray, List.set_cons_zero, List.set_cons_succ]
    refine f_val (.pointer (some ⟨b, 1, none⟩)) (by rfl) ?_ ?_
    · intro w' hC; obtain ⟨z0, z1, z2⟩ := HC4.out w' hC; clear hC; go_simp
    simp only [Act.put, List.setIfInBounds_toArray, List.set_cons_zero, List.set_cons_succ]
    refine f_val (.slice A0 n0 c0) (by rfl) ?_ ?_
    · intro w' hC; obtain ⟨z0, z1, z2⟩ := HC4.out w' hC; clear hC; go_simp
    simp only [Act.put, List.setIfInBounds_toArray, List.set_cons_zero, List.set_cons_succ]
    refine f_val (.pointer (some ⟨b, 0, none⟩)) (by rfl) ?_ ?_
    · intro w' hC; obtain ⟨z0, z1, z2⟩ := HC4.out w' hC; clear hC; go_simp
    simp only [Act.put, List.setIfInBounds_toArray, List.set_cons_zero, List.set_cons_succ]
    refine f_val (.pointer (some ⟨b, 0, none⟩)) (by rfl) ?_ ?_
    · intro w' hC; obtain ⟨z0, z1, z2⟩ := HC4.out w' hC; clear hC; go_simp
    simp only [Act.put, List.setIfInBounds_toArray, List.set_cons_zero, List.set_cons_succ]
    refine f_val (.pointer (some ⟨b, 2, none⟩)) (by rfl) ?_ ?_
    · intro w' hC; obtain ⟨z0, z1, z2⟩ := HC4.out w' hC; clear hC; go_simp
    simp only [Act.put, List.setIfInBounds_toArray, List.set_cons_zero, List.set_cons_succ]
    refine f_val (.int .i64 (kp : Int)) (by rfl) ?_ ?_
    · intro w' hC; obtain ⟨z0, z1, z2⟩ := HC4.out w' hC; clear hC; go_simp
    simp only [Act.put, List.setIfInBounds_toArray, List.set_cons_zero, List.set_cons_succ]
    refine f_val (.int .i64 g0) (by rfl) ?_ ?_
    · intro w' hC; obtain ⟨z0, z1, z2⟩ := HC4.out w' hC; clear hC; go_simp
    simp only [Act.put, List.setIfInBounds_toArray, List.set_cons_zero, List.set_cons_succ]
    refine f_val (.int .i64 (n1 : Int)) (by rfl) ?_ ?_
    · intro w' hC; obtain ⟨z0, z1, z2⟩ := HC4.out w' hC; clear hC; go_simp
    simp only [Act.put, List.setIfInBounds_toArray, List.set_cons_zero, List.set_cons_succ]
    refine f_val (.slice A0 n1 c0) (by rfl) ?_ ?_
    · intro w' hC; obtain ⟨z0, z1, z2⟩ := HC4.out w' hC; clear hC; go_simp
    simp only [Act.put, List.setIfInBounds_toArray, List.set_cons_zero, List.set_cons_succ]
    refine f_val (.pointer (some ⟨b, 0, none⟩)) (by rfl) ?_ ?_
    · intro w' hC; obtain ⟨z0, z1, z2⟩ := HC4.out w' hC; clear hC; go_simp
    simp only [Act.put, List.setIfInBounds_toArray, List.set_cons_zero, List.set_cons_succ]
    refine f_val (.pointer (some ⟨b, 1, none⟩)) (by rfl) ?_ ?_
    · intro w' hC; obtain ⟨z0, z1, z2⟩ := HC4.out w' hC; clear hC; go_simp
    simp only [Act.put, List.setIfInBounds_toArray, List.set_cons_zero, List.set_cons_succ]
    refine wpF_end ?_
    intro w3 hC hks
    have HCw3 := Lib.hid hC
    clear hC hks
    have c1 := (HC4.out w3 HCw3.out).2.1
    have k3 := HCw3.out.whole (HCw2.out.whole HW.out)
    have f1 := k3.free 1
    have HK3 := Lib.hid k3
    clear k3
    go_wp2_with (fail)
    have k4 : Whole (w3.setCell ⟨b, 1, none⟩ (.slice A0 n1 c0)) b 98 #[.int .i64 (md : Int), .slice A0 n1 c0, .int .i64 (kp : Int)] := HK3.out.put 1 _
    have HKE := Lib.hid (keep_raw _ k4)
    have HK4 := Lib.hid k4
    clear k4
    refine HKE.out.mono ?_
    rintro e w5 ⟨rfl, hw5⟩
    have HW5 := Lib.hid hw5
    clear hw5 HKE
    go_wp2_with (fail)
    go_end0
    rw [HW5.out]
    exact ⟨rfl, HK4.out.put 2 _, ((Spares.grows (own := fun k => k = b) (HCw2.out.trans HCw3.out)).setCell (p := ⟨b, 1, none⟩) rfl _).setCell (p := ⟨b, 2, none⟩) rfl _⟩
  · obtain ⟨ad, x, rfl, hx1, hx2, hx3⟩ := hI.get (j := md % n) (Nat.mod_lt _ hz)
    have em : more l md = x := by
      unfold more
      rw [if_neg (by rw [hI.len]; omega), hI.len, List.getD_eq_getElem?_getD, hx2]
      rfl
    rw [em] at e2 hmr
    have r1 : (md : Int).tmod (n : Int) = ((md % n : Nat) : Int) := by
      rw [Int.tmod_eq_emod_of_nonneg (by omega)]
      rfl
    have r2 : ((md % n : Nat) : Int) < (n : Int) := by have := Nat.mod_lt md hz; omega
    have r3 : (0 : Int) ≤ ((md % n : Nat) : Int) := by omega
    have z1 : (0 : Int) < (n : Int) := by omega
    have z2 : ((n : Int) == 0) = false := by rw [beq_eq_false_iff_ne]; omega
    have z3 : ¬ (n : Int) = 0 := by omega
    have r4 : IntKind.i64.wrap ((md % n : Nat) : Int) = ((md % n : Nat) : Int) := IntWalk.i64_in _ (by have := Nat.mod_le md n; omega)
    generalize hq : md % n = q at *
    have HQ := Lib.hid hq
    clear h hk hc hb hn0 hI hmd hl hn1 hle em hmr hx2 hx3 hq hz
    go_enter Try.func60, Try.ntmps60
    go_wp2_with (fail)
    refine q_region mixed (by kernel_rfl) ?_
    iterate 14 (refine q_op' (v := ?_) (a' := ?_) (by rfl) ?_ ?_ ?_
                rotate_left 2
                · intro w' hC
                  obtain ⟨z0, z1, z2⟩ := HCL.out w' hC
                  clear hC
                  go_simp
                  try with_reducible rfl
                · simp only [Act.put, List.setIfInBounds_toArray, List.set_cons_zero, List.set_cons_succ]
                  try rfl)
    refine wpQuiet_nil ?_
    intro w2 hC
    have HCw2 := Lib.hid hC
    clear hC
    go_wp2_with (fail)
    have HC4 := Lib.hid (fun w' (hg : Grows w2 w') => HCL.out w' (HCw2.out.trans hg))
    generalize min (max x 0) ((n0 : Int) - (kp : Int)) = g0 at *
    have q0 : (0 : Int) ≤ (n1 : Int) := by omega
    have q2 : (n1 : Int) ≤ (c0 : Int) := by omega
    refine wp_region_facts_tail (E := Grows) 14 [valFact (.pointer (some ⟨b, 0, none⟩)), valFact (.pointer (some ⟨b, 0, none⟩)), valFact (.pointer (some ⟨b, 0, none⟩)), valFact (.pointer (some ⟨b, 1, none⟩)), valFact (.slice A0 n0 c0), valFact (.pointer (some ⟨b, 0, none⟩)), valFact (.pointer (some ⟨b, 0, none⟩)), valFact (.pointer (some ⟨b, 2, none⟩)), valFact (.int .i64 (kp : Int)), valFact (.int .i64 g0), valFact (.int .i64 (n1 : Int)), valFact (.slice A0 n1 c0), valFact (.pointer (some ⟨b, 0, none⟩)), valFact (.pointer (some ⟨b, 1, none⟩))] mixed (by kernel_rfl) (fun _ _ _ => Grows.trans) (grows_drew _) ?_
    simp only [List.take_succ_cons, List.take_zero, List.drop_succ_cons, List.drop_zero]
    refine f_val (.pointer (some ⟨b, 0, none⟩)) (by rfl) ?_ ?_
    · intro w' hC; obtain ⟨z0, z1, z2⟩ := HC4.out w' hC; clear hC; go_simp
    simp only [Act.put, List.setIfInBounds_toArray, List.set_cons_zero, List.set_cons_succ]
    refine f_val (.pointer (some ⟨b, 0, none⟩)) (by rfl) ?_ ?_
    · intro w' hC; obtain ⟨z0, z1, z2⟩ := HC4.out w' hC; clear hC; go_simp
    simp only [Act.put, List.setIfInBounds_toArray, List.set_cons_zero, List.set_cons_succ]
    refine f_val (.pointer (some ⟨b, 0, none⟩)) (by rfl) ?_ ?_
    · intro w' hC; obtain ⟨z0, z1, z2⟩ := HC4.out w' hC; clear hC; go_simp
    simp only [Act.put, List.setIfInBounds_toArray, List.set_cons_zero, List.set_cons_succ]
    refine f_val (.pointer (some ⟨b, 1, none⟩)) (by rfl) ?_ ?_
    · intro w' hC; obtain ⟨z0, z1, z2⟩ := HC4.out w' hC; clear hC; go_simp
    simp only [Act.put, List.setIfInBounds_toArray, List.set_cons_zero, List.set_cons_succ]
    refine f_val (.slice A0 n0 c0) (by rfl) ?_ ?_
    · intro w' hC; obtain ⟨z0, z1, z2⟩ := HC4.out w' hC; clear hC; go_simp
    simp only [Act.put, List.setIfInBounds_toArray, List.set_cons_zero, List.set_cons_succ]
    refine f_val (.pointer (some ⟨b, 0, none⟩)) (by rfl) ?_ ?_
    · intro w' hC; obtain ⟨z0, z1, z2⟩ := HC4.out w' hC; clear hC; go_simp
    simp only [Act.put, List.setIfInBounds_toArray, List.set_cons_zero, List.set_cons_succ]
    refine f_val (.pointer (some ⟨b, 0, none⟩)) (by rfl) ?_ ?_
    · intro w' hC; obtain ⟨z0, z1, z2⟩ := HC4.out w' hC; clear hC; go_simp
    simp only [Act.put, List.setIfInBounds_toArray, List.set_cons_zero, List.set_cons_succ]
    refine f_val (.pointer (some ⟨b, 2, none⟩)) (by rfl) ?_ ?_
    · intro w' hC; obtain ⟨z0, z1, z2⟩ := HC4.out w' hC; clear hC; go_simp
    simp only [Act.put, List.setIfInBounds_toArray, List.set_cons_zero, List.set_cons_succ]
    refine f_val (.int .i64 (kp : Int)) (by rfl) ?_ ?_
    · intro w' hC; obtain ⟨z0, z1, z2⟩ := HC4.out w' hC; clear hC; go_simp
    simp only [Act.put, List.setIfInBounds_toArray, List.set_cons_zero, List.set_cons_succ]
    refine f_val (.int .i64 g0) (by rfl) ?_ ?_
    · intro w' hC; obtain ⟨z0, z1, z2⟩ := HC4.out w' hC; clear hC; go_simp
    simp only [Act.put, List.setIfInBounds_toArray, List.set_cons_zero, List.set_cons_succ]
    refine f_val (.int .i64 (n1 : Int)) (by rfl) ?_ ?_
    · intro w' hC; obtain ⟨z0, z1, z2⟩ := HC4.out w' hC; clear hC; go_simp
    simp only [Act.put, List.setIfInBounds_toArray, List.set_cons_zero, List.set_cons_succ]
    refine f_val (.slice A0 n1 c0) (by rfl) ?_ ?_
    · intro w' hC; obtain ⟨z0, z1, z2⟩ := HC4.out w' hC; clear hC; go_simp
    simp only [Act.put, List.setIfInBounds_toArray, List.set_cons_zero, List.set_cons_succ]
    refine f_val (.pointer (some ⟨b, 0, none⟩)) (by rfl) ?_ ?_
    · intro w' hC; obtain ⟨z0, z1, z2⟩ := HC4.out w' hC; clear hC; go_simp
    simp only [Act.put, List.setIfInBounds_toArray, List.set_cons_zero, List.set_cons_succ]
    refine f_val (.pointer (some ⟨b, 1, none⟩)) (by rfl) ?_ ?_
    · intro w' hC; obtain ⟨z0, z1, z2⟩ := HC4.out w' hC; clear hC; go_simp
    simp only [Act.put, List.setIfInBounds_toArray, List.set_cons_zero, List.set_cons_succ]
    refine wpF_end ?_
    intro w3 hC hks
    have HCw3 := Lib.hid hC
    clear hC hks
    have c1 := (HC4.out w3 HCw3.out).2.1
    have k3 := HCw3.out.whole (HCw2.out.whole HW.out)
    have f1 := k3.free 1
    have HK3 := Lib.hid k3
    clear k3
    go_wp2_with (fail)
    have k4 : Whole (w3.setCell ⟨b, 1, none⟩ (.slice A0 n1 c0)) b 98 #[.int .i64 (md : Int), .slice A0 n1 c0, .int .i64 (kp : Int)] := HK3.out.put 1 _
    have HKE := Lib.hid (keep_raw _ k4)
    have HK4 := Lib.hid k4
    clear k4
    refine HKE.out.mono ?_
    rintro e w5 ⟨rfl, hw5⟩
    have HW5 := Lib.hid hw5
    clear hw5 HKE
    go_wp2_with (fail)
    go_end0
    rw [HW5.out]
    exact ⟨rfl, HK4.out.put 2 _, ((Spares.grows (own := fun k => k = b) (HCw2.out.trans HCw3.out)).setCell (p := ⟨b, 1, none⟩) rfl _).setCell (p := ⟨b, 2, none⟩) rfl _⟩
end Go.Proofs.Ytmfhpfehphbklaa

