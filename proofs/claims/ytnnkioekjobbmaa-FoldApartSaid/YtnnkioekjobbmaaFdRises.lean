/-
  rises: do a list's keys rise?
-/
import Derived.Test.YtnnkioekjobbmaaFdMem
import Derived.LoopTactic
namespace Go.Proofs.Ytnnkioekjobbmaa
open Go.RowKit
set_option linter.unusedVariables false
set_option linter.unusedSimpArgs false
attribute [local irreducible] wpF

set_option maxRecDepth 100000 in
set_option maxHeartbeats 4000000 in
theorem rises_any (A : Option Addr) (n c : Nat) (l : List Ht) (w : World) (h : Hts w A n c l) (hn : n ≤ 1000000) :
    Calls Try.prog 18 #[.slice A n c] w fun e w' => e = .returned (.bool (upB l)) ∧ Grows w w' := by
  have HX := Lib.hid h
  have hlen := h.len
  have HLN := Lib.hid hlen
  clear h hlen
  obtain ⟨m, hm⟩ : ∃ m : Int, (n : Int) - 1 = m := ⟨_, rfl⟩
  have hw := (wrapI (x := m) (by omega) (by omega))
  obtain ⟨hw1, hw2⟩ := hw
  have HM := Lib.hid hm
  go_enter Try.func18, Try.ntmps18
  go_wp2_with (fail)
  go_loopw [3, 7] (fun _ vi wr => ∃ (j : Nat), j ≤ n ∧ vi = .int .i64 (j : Int) ∧ Hid (∀ i x y, i < j → l[i]? = some x → l[i + 1]? = some y → bytesBefore x.key y.key = true) ∧ Hid (Grows w wr)) (fun _ vi _ => n - (intOf vi).toNat)
  case atStart => exact ⟨0, Nat.zero_le _, rfl, Lib.hid fun i x y h => by omega, Lib.hid (Grows.refl _)⟩
  case round =>
    obtain ⟨j, hj, rfl, HJ, HG⟩ := hrel
    by_cases hlt : (j : Int) < m
    · have hj1 : j + 1 < n := by omega
      obtain ⟨ad, x, rfl, hx, hb, hcx⟩ := HX.out.at (i := j) (by omega)
      obtain ⟨ad', y, e1, hy, _, hcy⟩ := HX.out.at hj1
      injection e1 with e1
      subst e1
      obtain ⟨xk, hxk⟩ : ∃ k, x.key = k := ⟨_, rfl⟩
      obtain ⟨yk, hyk⟩ : ∃ k, y.key = k := ⟨_, rfl⟩
      rw [hxk] at hcx
      rw [hyk] at hcy
      obtain ⟨j1, hj1e⟩ : ∃ k, j + 1 = k := ⟨_, rfl⟩
      rw [hj1e] at hy hcy
      have k0 : (0 : Int) ≤ (j : Int) := by omega
      have k1 : (j : Int) < (n : Int) := by omega
      have k2 : (0 : Int) ≤ (j1 : Int) := by omega
      have k3 : (j1 : Int) < (n : Int) := by omega
      have k4 : (j : Int) + 1 = (j1 : Int) := by omega
      have k5 := (wrapI (x := (j1 : Int)) (by omega) (by omega))
      have HI := Lib.hid (And.intro k0 (And.intro k1 (And.intro k2 (And.intro k3 (And.intro k4 k5)))))
      have HC := Lib.hid (show (∀ w', Grows wr w' → w'.cell? { block := (ad.add (j * 4)).block, off := (ad.add (j * 4)).off + 1 } = some (.string ⟨xk.toArray⟩)) ∧ (∀ w', Grows wr w' → w'.cell? { block := (ad.add (j1 * 4)).block, off := (ad.add (j1 * 4)).off + 1 } = some (.string ⟨yk.toArray⟩)) from ⟨fun w' hg => (hcx w' (Grows.trans HG.out hg)).2.1, fun w' hg => (hcy w' (Grows.trans HG.out hg)).2.1⟩)
      have HP := Lib.hid (show (bytesBefore xk yk = true → ∀ i x y, i < j1 → l[i]? = some x → l[i + 1]? = some y → bytesBefore x.key y.key = true) ∧ (bytesBefore xk yk = false → upB l = false) from ⟨fun hbf i u v hi hu hv => by
        by_cases e : i = j
        · subst e
          rw [hx] at hu
          rw [hj1e, hy] at hv
          injection hu with hu
          injection hv with hv
          rw [← hu, ← hv, hxk, hyk]
          exact hbf
        · exact HJ.out i u v (by omega) hu hv, fun hbf => upB_not hx (hj1e ▸ hy) (by rw [hxk, hyk]; exact hbf)⟩)
      have HJ1 := Lib.hid hj1e
      clear hx hy hcx hcy hb hxk hyk k4 k5 k2 k3 hj1e hm
      rcases hbf : bytesBefore xk yk with _ | _
      · have HB := Lib.hid ((fless xk yk).trans hbf)
        have HF := Lib.hid (HP.out.2 hbf)
        clear hbf
        go_wp2_with (fail)
        refine wp_region_facts (E := Grows) [valFact (.slice (some ad) n c), valFact (.int .i64 (j : Int)), valFact (.pointer (some (ad.add (j * 4)))), valFact (.pointer (some { block := (ad.add (j * 4)).block, off := (ad.add (j * 4)).off + 1 })), valFact (.string ⟨xk.toArray⟩), valFact (.slice (some ad) n c), valFact (.int .i64 (j : Int)), valFact (.int .i64 (j1 : Int)), valFact (.pointer (some (ad.add (j1 * 4)))), valFact (.pointer (some { block := (ad.add (j1 * 4)).block, off := (ad.add (j1 * 4)).off + 1 })), valFact (.string ⟨yk.toArray⟩), valFact (.bool true)] (by kernel_rfl) (by kernel_rfl) (fun _ _ _ => Grows.trans) (grows_drew _) ?_
        refine f_val (.slice (some ad) n c) (by rfl) ?_ ?_
        · intro w' hC; clear hC; go_simp
        simp only [Act.put, List.setIfInBounds_toArray, List.set_cons_zero, List.set_cons_succ]
        refine f_val (.int .i64 (j : Int)) (by rfl) ?_ ?_
        · intro w' hC; clear hC; go_simp
        simp only [Act.put, List.setIfInBounds_toArray, List.set_cons_zero, List.set_cons_succ]
        refine f_val (.pointer (some (ad.add (j * 4)))) (by rfl) ?_ ?_
        · intro w' hC; have k0 := HI.out; clear hC; go_simp
        simp only [Act.put, List.setIfInBounds_toArray, List.set_cons_zero, List.set_cons_succ]
        refine f_val (.pointer (some { block := (ad.add (j * 4)).block, off := (ad.add (j * 4)).off + 1 })) (by rfl) ?_ ?_
        · intro w' hC; clear hC; go_simp
        simp only [Act.put, List.setIfInBounds_toArray, List.set_cons_zero, List.set_cons_succ]
        refine f_val (.string ⟨xk.toArray⟩) (by rfl) ?_ ?_
        · intro w' hC; have q := HC.out.1 w' hC; clear hC; go_simp
        simp only [Act.put, List.setIfInBounds_toArray, List.set_cons_zero, List.set_cons_succ]
        refine f_val (.slice (some ad) n c) (by rfl) ?_ ?_
        · intro w' hC; clear hC; go_simp
        simp only [Act.put, List.setIfInBounds_toArray, List.set_cons_zero, List.set_cons_succ]
        refine f_val (.int .i64 (j : Int)) (by rfl) ?_ ?_
        · intro w' hC; clear hC; go_simp
        simp only [Act.put, List.setIfInBounds_toArray, List.set_cons_zero, List.set_cons_succ]
        refine f_val (.int .i64 (j1 : Int)) (by rfl) ?_ ?_
        · intro w' hC; have k0 := HI.out; clear hC; go_simp
        simp only [Act.put, List.setIfInBounds_toArray, List.set_cons_zero, List.set_cons_succ]
        refine f_val (.pointer (some (ad.add (j1 * 4)))) (by rfl) ?_ ?_
        · intro w' hC; have k0 := HI.out; clear hC; go_simp
        simp only [Act.put, List.setIfInBounds_toArray, List.set_cons_zero, List.set_cons_succ]
        refine f_val (.pointer (some { block := (ad.add (j1 * 4)).block, off := (ad.add (j1 * 4)).off + 1 })) (by rfl) ?_ ?_
        · intro w' hC; clear hC; go_simp
        simp only [Act.put, List.setIfInBounds_toArray, List.set_cons_zero, List.set_cons_succ]
        refine f_val (.string ⟨yk.toArray⟩) (by rfl) ?_ ?_
        · intro w' hC; have q := HC.out.2 w' hC; clear hC; go_simp
        simp only [Act.put, List.setIfInBounds_toArray, List.set_cons_zero, List.set_cons_succ]
        refine f_val (.bool true) (by rfl) ?_ ?_
        · intro w' hC; have k0 := HB.out; clear hC; go_simp
        simp only [Act.put, List.setIfInBounds_toArray, List.set_cons_zero, List.set_cons_succ]
        refine wpF_end ?_
        intro w2 hC hks
        have HCw2 := Lib.hid hC
        clear hC hks
        go_wp2_with (fail)
        go_ret
        exact ⟨ret_bool HF.out.symm, Grows.trans HG.out HCw2.out⟩
      · have HB := Lib.hid ((fless xk yk).trans hbf)
        have HF := Lib.hid (HP.out.1 hbf)
        clear hbf
        go_wp2_with (fail)
        refine wp_region_facts (E := Grows) [valFact (.slice (some ad) n c), valFact (.int .i64 (j : Int)), valFact (.pointer (some (ad.add (j * 4)))), valFact (.pointer (some { block := (ad.add (j * 4)).block, off := (ad.add (j * 4)).off + 1 })), valFact (.string ⟨xk.toArray⟩), valFact (.slice (some ad) n c), valFact (.int .i64 (j : Int)), valFact (.int .i64 (j1 : Int)), valFact (.pointer (some (ad.add (j1 * 4)))), valFact (.pointer (some { block := (ad.add (j1 * 4)).block, off := (ad.add (j1 * 4)).off + 1 })), valFact (.string ⟨yk.toArray⟩), valFact (.bool false)] (by kernel_rfl) (by kernel_rfl) (fun _ _ _ => Grows.trans) (grows_drew _) ?_
        refine f_val (.slice (some ad) n c) (by rfl) ?_ ?_
        · intro w' hC; clear hC; go_simp
        simp only [Act.put, List.setIfInBounds_toArray, List.set_cons_zero, List.set_cons_succ]
        refine f_val (.int .i64 (j : Int)) (by rfl) ?_ ?_
        · intro w' hC; clear hC; go_simp
        simp only [Act.put, List.setIfInBounds_toArray, List.set_cons_zero, List.set_cons_succ]
        refine f_val (.pointer (some (ad.add (j * 4)))) (by rfl) ?_ ?_
        · intro w' hC; have k0 := HI.out; clear hC; go_simp
        simp only [Act.put, List.setIfInBounds_toArray, List.set_cons_zero, List.set_cons_succ]
        refine f_val (.pointer (some { block := (ad.add (j * 4)).block, off := (ad.add (j * 4)).off + 1 })) (by rfl) ?_ ?_
        · intro w' hC; clear hC; go_simp
        simp only [Act.put, List.setIfInBounds_toArray, List.set_cons_zero, List.set_cons_succ]
        refine f_val (.string ⟨xk.toArray⟩) (by rfl) ?_ ?_
        · intro w' hC; have q := HC.out.1 w' hC; clear hC; go_simp
        simp only [Act.put, List.setIfInBounds_toArray, List.set_cons_zero, List.set_cons_succ]
        refine f_val (.slice (some ad) n c) (by rfl) ?_ ?_
        · intro w' hC; clear hC; go_simp
        simp only [Act.put, List.setIfInBounds_toArray, List.set_cons_zero, List.set_cons_succ]
        refine f_val (.int .i64 (j : Int)) (by rfl) ?_ ?_
        · intro w' hC; clear hC; go_simp
        simp only [Act.put, List.setIfInBounds_toArray, List.set_cons_zero, List.set_cons_succ]
        refine f_val (.int .i64 (j1 : Int)) (by rfl) ?_ ?_
        · intro w' hC; have k0 := HI.out; clear hC; go_simp
        simp only [Act.put, List.setIfInBounds_toArray, List.set_cons_zero, List.set_cons_succ]
        refine f_val (.pointer (some (ad.add (j1 * 4)))) (by rfl) ?_ ?_
        · intro w' hC; have k0 := HI.out; clear hC; go_simp
        simp only [Act.put, List.setIfInBounds_toArray, List.set_cons_zero, List.set_cons_succ]
        refine f_val (.pointer (some { block := (ad.add (j1 * 4)).block, off := (ad.add (j1 * 4)).off + 1 })) (by rfl) ?_ ?_
        · intro w' hC; clear hC; go_simp
        simp only [Act.put, List.setIfInBounds_toArray, List.set_cons_zero, List.set_cons_succ]
        refine f_val (.string ⟨yk.toArray⟩) (by rfl) ?_ ?_
        · intro w' hC; have q := HC.out.2 w' hC; clear hC; go_simp
        simp only [Act.put, List.setIfInBounds_toArray, List.set_cons_zero, List.set_cons_succ]
        refine f_val (.bool false) (by rfl) ?_ ?_
        · intro w' hC; have k0 := HB.out; clear hC; go_simp
        simp only [Act.put, List.setIfInBounds_toArray, List.set_cons_zero, List.set_cons_succ]
        refine wpF_end ?_
        intro w2 hC hks
        have HCw2 := Lib.hid hC
        clear hC hks
        go_wp2_with (fail)
        go_roundw
        case rel => exact ⟨j + 1, by omega, by first | rfl | go_num, Lib.hid (HJ1.out ▸ HF.out), Lib.hid (Grows.trans HG.out HCw2.out)⟩
        case measure => simp [intOf]; omega
    · have HT := Lib.hid (show upB l = true from (upB_pairs l).2 fun i x y hx hy => by
        have h1 := (List.getElem?_eq_some_iff.1 hy).1
        exact HJ.out i x y (by have := HLN.out; have := HM.out; omega) hx hy)
      go_wp2_with (fail)
      go_ret
      exact ⟨ret_bool HT.out.symm, HG.out⟩
end Go.Proofs.Ytnnkioekjobbmaa
