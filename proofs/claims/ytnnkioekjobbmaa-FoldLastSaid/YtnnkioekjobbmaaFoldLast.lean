/-
  Statement FoldLast: each key of any list is told, once, in order, with the hint of the last list that has it. Every list of numbers, and every list of lists of hints, no condition.
-/
import Derived.Test.YtnnkioekjobbmaaFdHead
import Derived.Test.YtnnkioekjobbmaaFdGreat
import Derived.Test.YtnnkioekjobbmaaFdIn
import Derived.ProofKit
import Derived.ChangeOld
namespace Go.Proofs.Ytnnkioekjobbmaa
open Go.ChangeShapes Go.WideShapes Go.ChangeAt Go.RowKit
set_option linter.unusedSimpArgs false
set_option linter.unusedVariables false
attribute [local irreducible] wpF
theorem sorted_at {τ : Type} {l : List (τ × Ht)} (h : Sorted l) {i j : Nat} {x y : τ × Ht} (hx : l[i]? = some x) (hy : l[j]? = some y) (hij : i < j) : bytesBefore x.2.key y.2.key = true := by
  obtain ⟨h1, e1⟩ := List.getElem?_eq_some_iff.1 hx
  obtain ⟨h2, e2⟩ := List.getElem?_eq_some_iff.1 hy
  have := List.pairwise_iff_getElem.1 h i j h1 h2 hij
  rwa [e1, e2] at this
set_option maxRecDepth 100000 in
set_option maxHeartbeats 16000000 in
theorem foldLast_law (w : World) (SA : Option Addr) (sn sc : Nat) (segs : List Int) (hsg : Ins w SA sn sc segs) (A : Option Addr) (N c : Nat) (sl : List Sl3) (ls : List (List Ht)) (hx : Lls w A N c sl ls) (hN : N ≤ 6000000000000) (hm : ∀ l ∈ ls, l.length ≤ 4000000000000) :
    Calls Try.prog 4 #[.slice SA sn sc, .slice A N c] w fun e w' => e = .returned (.bool true) ∧ Below w.heap.size w w' := by
  have HX := Lib.hid (And.intro hsg (And.intro hx (And.intro hN hm)))
  clear hsg hx hN hm
  go_enter Try.func4, Try.ntmps4
  go_wp2_with (fail)
  refine (head14_any w).mono ?_
  rintro e w1 ⟨rfl, hg1⟩
  have HG1 := Lib.hid hg1
  have HGT := Lib.hid (great_any A N c sl ls w1 (HX.out.2.1.grow hg1) HX.out.2.2.1 HX.out.2.2.2)
  clear hg1
  go_wp2_with (fail)
  refine HGT.out.mono ?_
  rintro e w2 ⟨g, rfl, hsm, hg2⟩
  have HG2 := Lib.hid (Grows.trans HG1.out hg2)
  clear hg2 HGT
  cases g
  rotate_left
  · clear hsm
    go_wp2_with (fail)
    go_ret
    exact ⟨rfl, HG2.out⟩
  obtain ⟨hN1, hM1⟩ := hsm rfl
  have HB := Lib.hid (And.intro hN1 hM1)
  clear hsm hN1 hM1
  by_cases hs : 200 < sn
  · have hs2 : (200 : Int) < (sn : Int) := by omega
    go_wp2_with (fail)
    go_ret
    exact ⟨rfl, HG2.out⟩
  have hs2 : ¬ ((200 : Int) < (sn : Int)) := by omega
  have HF := Lib.hid (fold_any SA sn sc segs A N c sl ls w2 (HX.out.1.grow HG2.out) (HX.out.2.1.grow HG2.out) (by have := HB.out; omega) (by have := HB.out; omega))
  obtain ⟨r, hr⟩ : ∃ r, okFold segs ls = r := ⟨_, rfl⟩
  obtain ⟨L, hL⟩ : ∃ L, foldAll segs ls = L := ⟨_, rfl⟩
  have HRL := Lib.hid (And.intro hr hL)
  rw [hr, hL] at HF
  clear hr hL hs
  go_wp2_with (fail)
  refine HF.out.mono ?_
  rintro e w3 ⟨A1, n1, c1, rfl, o1, g3⟩
  have H3 := Lib.hid (And.intro o1.rs (And.intro o1.len (Grows.trans HG2.out g3)))
  clear o1 g3 HF
  cases r
  · obtain rfl : n1 = 0 := by
      have h1 := H3.out.2.1
      have h2 := HRL.out.2
      unfold foldAll at h2
      rw [HRL.out.1] at h2
      rw [← h2] at h1
      exact h1.symm
    go_wp2_with (fail)
    go_ret
    exact ⟨rfl, H3.out.2.2⟩
  have hall : segs.length = ls.length ∧ (∀ l ∈ ls, Rising l) ∧ L = (foldP ls).map (segF segs) := by
    have h1 := HRL.out.1
    have h2 := HRL.out.2
    unfold foldAll at h2
    rw [h1, if_pos rfl] at h2
    unfold okFold at h1
    rw [Bool.and_eq_true, decide_eq_true_eq, List.all_eq_true] at h1
    exact ⟨h1.1, fun l hl => (upB_rising l).1 (h1.2 l hl), h2.symm⟩
  have HUP := Lib.hid hall.2.1
  have HSN := Lib.hid (show sn = N from by have := HX.out.1.len; have := HX.out.2.1.len; have := hall.1; omega)
  obtain ⟨T, hT⟩ : ∃ T, foldP ls = T := ⟨_, rfl⟩
  have HFO := Lib.hid (show Folds (Has ls) T from hT ▸ fold_all hall.2.1)
  have HTL := Lib.hid (show L = T.map (segF segs) ∧ T.length ≤ manyL ls from ⟨hT ▸ hall.2.2, hT ▸ foldP_len ls⟩)
  have HGW := Lib.hid H3.out.2.2
  have hn9 : n1 ≤ 9000 := by
    have h1 := H3.out.2.1
    have h2 := HTL.out
    rw [h2.1, List.length_map] at h1
    have := HB.out
    omega
  clear hall hT
  go_wp2_with (fail)
  go_loopw [9, 10, 11, 12] (fun vi _ _ _ wr => ∃ (i : Nat), i ≤ n1 ∧ vi = .int .i64 (i : Int) ∧ Hid (Grows w3 wr)) (fun vi _ _ _ _ => n1 - (intOf vi).toNat)
  case atStart => exact ⟨0, Nat.zero_le _, rfl, Lib.hid (Grows.refl _)⟩
  case round =>
    obtain ⟨i, hi, rfl, HG0⟩ := hrel
    by_cases hlt : i < n1
    · obtain ⟨ad, ⟨sv, ⟨q0, q1, q2, q3⟩⟩, rfl, hp, hbl, hc⟩ := H3.out.1.at hlt
      have HLIC := Lib.hid hc
      dsimp only at HLIC
      have hil : i < T.length := by
        have h1 := H3.out.2.1
        rw [HTL.out.1, List.length_map] at h1
        omega
      obtain ⟨⟨k0, h0⟩, hTi⟩ : ∃ p, T[i]? = some p := ⟨_, List.getElem?_eq_getElem hil⟩
      have hseg : segs.getD k0 0 = sv ∧ h0 = ⟨q0, q1, q2, q3⟩ := by
        rw [HTL.out.1, List.getElem?_map, hTi] at hp
        injection hp with hp
        unfold segF at hp
        exact Prod.mk.inj hp
      have hh := (HFO.out.iff k0 h0).1 (List.mem_of_getElem? hTi)
      rw [hseg.2] at hh hTi
      have HK0 := Lib.hid (show k0 < N ∧ (∃ l, ls[k0]? = some l ∧ (⟨q0, q1, q2, q3⟩ : Ht) ∈ l) ∧ (∀ j g, Has ls j g → g.key = q1 → j ≤ k0) from ⟨by
        obtain ⟨l, hl, _⟩ := hh.1
        have := (List.getElem?_eq_some_iff.1 hl).1
        have := HX.out.2.1.len
        omega, hh.1, hh.2⟩)
      have hk0s : k0 < sn := by have := HK0.out.1; have := HSN.out; omega
      obtain ⟨sa, sv2, es, hsv1, _, hsv3⟩ := HX.out.1.at hk0s
      subst es
      have hsve : sv = sv2 := by
        rw [← hseg.1, List.getD_eq_getElem?_getD, hsv1]
        rfl
      subst hsve
      have HSVC := Lib.hid (show ∀ kn, kn = k0 → ∀ w', Grows w3 w' → w'.cell? (sa.add kn) = some (.int .i64 sv) from fun kn e w' hg => by
        subst e
        exact hsv3 w' (Grows.trans HGW.out hg))
      have k0i : (0 : Int) ≤ (i : Int) := by omega
      have k1i : (i : Int) < (n1 : Int) := by omega
      have HII := Lib.hid (And.intro k0i k1i)
      have HTI := Lib.hid hTi
      clear hp hbl hc hil hTi hseg hh hk0s hsv1 hsv3
      by_cases hi0 : i = 0
      · have HPOS0 := Lib.hid (show ¬ 0 < i from by omega)
        clear hi0
        go_wp2_with (fail)
        refine wp_region_facts (E := Grows) [valFact (.int .i64 (i : Int)), valFact (.bool false), valFact (.bool false), valFact undef, valFact undef, valFact undef, valFact undef, valFact undef, valFact undef, valFact undef, valFact undef, valFact undef, valFact undef, valFact undef, valFact undef, valFact undef, valFact undef, valFact (.bool false)] (by kernel_rfl) (by kernel_rfl) (fun _ _ _ => Grows.trans) (grows_drew _) ?_
        refine f_val (.int .i64 (i : Int)) (by rfl) ?_ ?_
        · intro w' hC; clear hC; go_simp
        simp only [Act.put, List.setIfInBounds_toArray, List.set_cons_zero, List.set_cons_succ]
        refine f_val (.bool false) (by rfl) ?_ ?_
        · intro w' hC; have k0 := HPOS0.out; clear hC; go_simp
        simp only [Act.put, List.setIfInBounds_toArray, List.set_cons_zero, List.set_cons_succ]
        refine f_val (.bool false) (by rfl) ?_ ?_
        · intro w' hC; clear hC; go_simp
        simp only [Act.put, List.setIfInBounds_toArray, List.set_cons_zero, List.set_cons_succ]
        refine f_skip (by rfl) ?_
        simp only [Act.put, List.setIfInBounds_toArray, List.set_cons_zero, List.set_cons_succ]
        refine f_skip (by rfl) ?_
        simp only [Act.put, List.setIfInBounds_toArray, List.set_cons_zero, List.set_cons_succ]
        refine f_skip (by rfl) ?_
        simp only [Act.put, List.setIfInBounds_toArray, List.set_cons_zero, List.set_cons_succ]
        refine f_skip (by rfl) ?_
        simp only [Act.put, List.setIfInBounds_toArray, List.set_cons_zero, List.set_cons_succ]
        refine f_skip (by rfl) ?_
        simp only [Act.put, List.setIfInBounds_toArray, List.set_cons_zero, List.set_cons_succ]
        refine f_skip (by rfl) ?_
        simp only [Act.put, List.setIfInBounds_toArray, List.set_cons_zero, List.set_cons_succ]
        refine f_skip (by rfl) ?_
        simp only [Act.put, List.setIfInBounds_toArray, List.set_cons_zero, List.set_cons_succ]
        refine f_skip (by rfl) ?_
        simp only [Act.put, List.setIfInBounds_toArray, List.set_cons_zero, List.set_cons_succ]
        refine f_skip (by rfl) ?_
        simp only [Act.put, List.setIfInBounds_toArray, List.set_cons_zero, List.set_cons_succ]
        refine f_skip (by rfl) ?_
        simp only [Act.put, List.setIfInBounds_toArray, List.set_cons_zero, List.set_cons_succ]
        refine f_skip (by rfl) ?_
        simp only [Act.put, List.setIfInBounds_toArray, List.set_cons_zero, List.set_cons_succ]
        refine f_skip (by rfl) ?_
        simp only [Act.put, List.setIfInBounds_toArray, List.set_cons_zero, List.set_cons_succ]
        refine f_skip (by rfl) ?_
        simp only [Act.put, List.setIfInBounds_toArray, List.set_cons_zero, List.set_cons_succ]
        refine f_skip (by rfl) ?_
        simp only [Act.put, List.setIfInBounds_toArray, List.set_cons_zero, List.set_cons_succ]
        refine f_val (.bool false) (by rfl) ?_ ?_
        · intro w' hC; clear hC; go_simp
        simp only [Act.put, List.setIfInBounds_toArray, List.set_cons_zero, List.set_cons_succ]
        refine wpF_end ?_
        intro w4 hC hks
        have HCw4 := Lib.hid hC
        clear hC hks
        have G4 := Lib.hid (Grows.trans HG0.out HCw4.out)
        have hN1 : N ≤ 1000 := by have := HB.out; omega
        obtain ⟨zN, hzN⟩ : ∃ z : Int, (N : Int) - 1 = z := ⟨_, rfl⟩
        have HZN := Lib.hid hzN
        obtain ⟨bz1, bz2⟩ := wrapI (x := zN) (by omega) (by omega)
        clear hN1
        go_wp2_with (fail)
        clear bz1 bz2 hzN
        go_loopw [10, 11, 12] (fun vf vk _ wr => ∃ (f : Bool) (z : Int), vf = .bool f ∧ vk = .int .i64 z ∧ Hid (-1 ≤ z ∧ z < (N : Int)) ∧ Hid (f = false → (k0 : Int) ≤ z) ∧ Hid (Grows w3 wr)) (fun _ vk _ _ => (intOf vk + 1).toNat)
        case atStart => exact ⟨false, zN, rfl, rfl, Lib.hid (by have := HZN.out; omega), Lib.hid (fun _ => by have := HZN.out; have := HK0.out.1; omega), G4⟩
        case round =>
          obtain ⟨f, z, rfl, rfl, HZ, HF, HG⟩ := hrel
          cases f
          · obtain ⟨kn, hkn⟩ : ∃ k : Nat, z = (k : Int) := ⟨z.toNat, by have := HF.out rfl; omega⟩
            subst hkn
            have hk0 : k0 ≤ kn := by have := HF.out rfl; omega
            have hkN : kn < N := by have := HZ.out; omega
            obtain ⟨la, B, m, q, li, e1, hli, hts, hbl, hcell⟩ := HX.out.2.1.at hkN
            subst e1
            have hpos : (0 : Int) ≤ (kn : Int) := by omega
            have hkN2 : (kn : Int) < (N : Int) := by omega
            have HC := Lib.hid (And.intro hts (And.intro hli (And.intro hcell (And.intro hk0 hkN))))
            have hml : m ≤ 9000 := by have := hts.len; have := manyL_mem hli; have := HB.out; omega
            clear hts hli hcell hbl hk0 hkN
            go_wp2_with (fail)
            go_loopw [10, 12] (fun vf vj wr => ∃ (f : Bool) (j : Nat), j ≤ m ∧ vf = .bool f ∧ vj = .int .i64 (j : Int) ∧ Hid (f = false → ∀ (j' : Nat) (x : Ht), j' < j → li[j']? = some x → x.key ≠ q1) ∧ Hid (Grows w3 wr)) (fun _ vj _ => m - (intOf vj).toNat)
            case atStart => exact ⟨false, 0, Nat.zero_le _, rfl, rfl, Lib.hid (fun _ j' x h => by omega), HG⟩
            case round =>
              clear HG
              obtain ⟨f, j, hj, rfl, rfl, HFJ, HG⟩ := hrel
              have hcw := HC.out.2.2.1 wr (Grows.trans HGW.out HG.out)
              by_cases hlt : j < m
              · obtain ⟨bd, ⟨x0, x1, x2, x3⟩, e2, hxj, _, hxc⟩ := HC.out.1.at hlt
                subst e2
                dsimp only at hxc
                have HXJ := Lib.hid hxj
                have hj2 : (0 : Int) ≤ (j : Int) := by omega
                have hj3 : (j : Int) < (m : Int) := by omega
                have HI := Lib.hid (And.intro HII.out (And.intro hpos (And.intro hkN2 (And.intro hj2 hj3))))
                have HLI := Lib.hid (fun w' (hg : Grows wr w') => HLIC.out w' (Grows.trans HG.out hg))
                have HSL := Lib.hid (fun w' (hg : Grows wr w') => HC.out.2.2.1 w' (Grows.trans HGW.out (Grows.trans HG.out hg)))
                have HXC := Lib.hid (fun w' (hg : Grows wr w') => hxc w' (Grows.trans HGW.out (Grows.trans HG.out hg)))
                clear hxj hxc
                rcases heq : (x1 == q1) with _ | _
                · have HEQ := Lib.hid heq
                  clear heq
                  go_wp2_with (fail)
                  refine wp_region_facts (E := Grows) [valFact (.slice (some la) N c), valFact (.int .i64 (kn : Int)), valFact (.pointer (some (la.add kn))), valFact (.slice (some bd) m q), valFact (.int .i64 (j : Int)), valFact (.pointer (some (bd.add (j * 4)))), valFact (.pointer (some { block := (bd.add (j * 4)).block, off := (bd.add (j * 4)).off + 1 })), valFact (.string ⟨x1.toArray⟩), valFact (.slice (some ad) n1 c1), valFact (.int .i64 (i : Int)), valFact (.pointer (some (ad.add (i * 5)))), valFact (.pointer (some { block := (ad.add (i * 5)).block, off := (ad.add (i * 5)).off + 1 })), valFact (.pointer (some { block := (ad.add (i * 5)).block, off := (ad.add (i * 5)).off + 2 })), valFact (.string ⟨q1.toArray⟩), valFact (.bool false)] (by kernel_rfl) (by kernel_rfl) (fun _ _ _ => Grows.trans) (grows_drew _) ?_
                  refine f_val (.slice (some la) N c) (by rfl) ?_ ?_
                  · intro w' hC; clear hC; go_simp
                  simp only [Act.put, List.setIfInBounds_toArray, List.set_cons_zero, List.set_cons_succ]
                  refine f_val (.int .i64 (kn : Int)) (by rfl) ?_ ?_
                  · intro w' hC; clear hC; go_simp
                  simp only [Act.put, List.setIfInBounds_toArray, List.set_cons_zero, List.set_cons_succ]
                  refine f_val (.pointer (some (la.add kn))) (by rfl) ?_ ?_
                  · intro w' hC; have k0 := HI.out; clear hC; go_simp
                  simp only [Act.put, List.setIfInBounds_toArray, List.set_cons_zero, List.set_cons_succ]
                  refine f_val (.slice (some bd) m q) (by rfl) ?_ ?_
                  · intro w' hC; have z := HSL.out w' hC; clear hC; go_simp
                  simp only [Act.put, List.setIfInBounds_toArray, List.set_cons_zero, List.set_cons_succ]
                  refine f_val (.int .i64 (j : Int)) (by rfl) ?_ ?_
                  · intro w' hC; clear hC; go_simp
                  simp only [Act.put, List.setIfInBounds_toArray, List.set_cons_zero, List.set_cons_succ]
                  refine f_val (.pointer (some (bd.add (j * 4)))) (by rfl) ?_ ?_
                  · intro w' hC; have k0 := HI.out; clear hC; go_simp
                  simp only [Act.put, List.setIfInBounds_toArray, List.set_cons_zero, List.set_cons_succ]
                  refine f_val (.pointer (some { block := (bd.add (j * 4)).block, off := (bd.add (j * 4)).off + 1 })) (by rfl) ?_ ?_
                  · intro w' hC; clear hC; go_simp
                  simp only [Act.put, List.setIfInBounds_toArray, List.set_cons_zero, List.set_cons_succ]
                  refine f_val (.string ⟨x1.toArray⟩) (by rfl) ?_ ?_
                  · intro w' hC; obtain ⟨z0, z1, z2, z3⟩ := HXC.out w' hC; clear hC; go_simp
                  simp only [Act.put, List.setIfInBounds_toArray, List.set_cons_zero, List.set_cons_succ]
                  refine f_val (.slice (some ad) n1 c1) (by rfl) ?_ ?_
                  · intro w' hC; clear hC; go_simp
                  simp only [Act.put, List.setIfInBounds_toArray, List.set_cons_zero, List.set_cons_succ]
                  refine f_val (.int .i64 (i : Int)) (by rfl) ?_ ?_
                  · intro w' hC; clear hC; go_simp
                  simp only [Act.put, List.setIfInBounds_toArray, List.set_cons_zero, List.set_cons_succ]
                  refine f_val (.pointer (some (ad.add (i * 5)))) (by rfl) ?_ ?_
                  · intro w' hC; have k0 := HI.out; clear hC; go_simp
                  simp only [Act.put, List.setIfInBounds_toArray, List.set_cons_zero, List.set_cons_succ]
                  refine f_val (.pointer (some { block := (ad.add (i * 5)).block, off := (ad.add (i * 5)).off + 1 })) (by rfl) ?_ ?_
                  · intro w' hC; clear hC; go_simp
                  simp only [Act.put, List.setIfInBounds_toArray, List.set_cons_zero, List.set_cons_succ]
                  refine f_val (.pointer (some { block := (ad.add (i * 5)).block, off := (ad.add (i * 5)).off + 2 })) (by rfl) ?_ ?_
                  · intro w' hC; clear hC; go_simp
                  simp only [Act.put, List.setIfInBounds_toArray, List.set_cons_zero, List.set_cons_succ]
                  refine f_val (.string ⟨q1.toArray⟩) (by rfl) ?_ ?_
                  · intro w' hC; obtain ⟨z0, z1, z2, z3, z4⟩ := HLI.out w' hC; clear hC; go_simp
                  simp only [Act.put, List.setIfInBounds_toArray, List.set_cons_zero, List.set_cons_succ]
                  refine f_val (.bool false) (by rfl) ?_ ?_
                  · intro w' hC; have k0 := HEQ.out; clear hC; go_simp
                  simp only [Act.put, List.setIfInBounds_toArray, List.set_cons_zero, List.set_cons_succ]
                  refine wpF_end ?_
                  intro w5 hC hks
                  have HCw5 := Lib.hid hC
                  clear hC hks
                  go_wp2_with (fail)
                  go_roundw
                  case rel => exact ⟨f, j + 1, by omega, rfl, by first | rfl | go_num, Lib.hid (fun hf j' x hj' hx => by
                    by_cases e : j' = j
                    · subst e
                      rw [HXJ.out] at hx
                      injection hx with hx
                      rw [← hx]
                      have := HEQ.out
                      simpa using this
                    · exact HFJ.out hf j' x (by omega) hx), Lib.hid (Grows.trans HG.out HCw5.out)⟩
                  case measure => simp [intOf]; omega
                · have HEQ := Lib.hid heq
                  have hkk : x1 = q1 := by simpa using heq
                  have hke : kn = k0 := by
                    have h1 := HK0.out.2.2 kn ⟨x0, x1, x2, x3⟩ ⟨li, HC.out.2.1, List.mem_of_getElem? HXJ.out⟩ hkk
                    have h2 := HC.out.2.2.2.1
                    omega
                  have hxe : (⟨x0, x1, x2, x3⟩ : Ht) = ⟨q0, q1, q2, q3⟩ := by
                    obtain ⟨l0, hl0, hm0⟩ := HK0.out.2.1
                    rw [← hke, HC.out.2.1] at hl0
                    injection hl0 with hl0
                    subst hl0
                    exact Rising.key (HUP.out li (List.mem_of_getElem? HC.out.2.1)) (List.mem_of_getElem? HXJ.out) hm0 hkk
                  have HKE := Lib.hid hke
                  clear heq hkk hke
                  injection hxe.symm with e0 e1 e2 e3
                  subst e0 e1 e2 e3
                  go_wp2_with (fail)
                  refine wp_region_facts (E := Grows) [valFact (.slice (some la) N c), valFact (.int .i64 (kn : Int)), valFact (.pointer (some (la.add kn))), valFact (.slice (some bd) m q), valFact (.int .i64 (j : Int)), valFact (.pointer (some (bd.add (j * 4)))), valFact (.pointer (some { block := (bd.add (j * 4)).block, off := (bd.add (j * 4)).off + 1 })), valFact (.string ⟨q1.toArray⟩), valFact (.slice (some ad) n1 c1), valFact (.int .i64 (i : Int)), valFact (.pointer (some (ad.add (i * 5)))), valFact (.pointer (some { block := (ad.add (i * 5)).block, off := (ad.add (i * 5)).off + 1 })), valFact (.pointer (some { block := (ad.add (i * 5)).block, off := (ad.add (i * 5)).off + 2 })), valFact (.string ⟨q1.toArray⟩), valFact (.bool true)] (by kernel_rfl) (by kernel_rfl) (fun _ _ _ => Grows.trans) (grows_drew _) ?_
                  refine f_val (.slice (some la) N c) (by rfl) ?_ ?_
                  · intro w' hC; clear hC; go_simp
                  simp only [Act.put, List.setIfInBounds_toArray, List.set_cons_zero, List.set_cons_succ]
                  refine f_val (.int .i64 (kn : Int)) (by rfl) ?_ ?_
                  · intro w' hC; clear hC; go_simp
                  simp only [Act.put, List.setIfInBounds_toArray, List.set_cons_zero, List.set_cons_succ]
                  refine f_val (.pointer (some (la.add kn))) (by rfl) ?_ ?_
                  · intro w' hC; have k0 := HI.out; clear hC; go_simp
                  simp only [Act.put, List.setIfInBounds_toArray, List.set_cons_zero, List.set_cons_succ]
                  refine f_val (.slice (some bd) m q) (by rfl) ?_ ?_
                  · intro w' hC; have z := HSL.out w' hC; clear hC; go_simp
                  simp only [Act.put, List.setIfInBounds_toArray, List.set_cons_zero, List.set_cons_succ]
                  refine f_val (.int .i64 (j : Int)) (by rfl) ?_ ?_
                  · intro w' hC; clear hC; go_simp
                  simp only [Act.put, List.setIfInBounds_toArray, List.set_cons_zero, List.set_cons_succ]
                  refine f_val (.pointer (some (bd.add (j * 4)))) (by rfl) ?_ ?_
                  · intro w' hC; have k0 := HI.out; clear hC; go_simp
                  simp only [Act.put, List.setIfInBounds_toArray, List.set_cons_zero, List.set_cons_succ]
                  refine f_val (.pointer (some { block := (bd.add (j * 4)).block, off := (bd.add (j * 4)).off + 1 })) (by rfl) ?_ ?_
                  · intro w' hC; clear hC; go_simp
                  simp only [Act.put, List.setIfInBounds_toArray, List.set_cons_zero, List.set_cons_succ]
                  refine f_val (.string ⟨q1.toArray⟩) (by rfl) ?_ ?_
                  · intro w' hC; obtain ⟨z0, z1, z2, z3⟩ := HXC.out w' hC; clear hC; go_simp
                  simp only [Act.put, List.setIfInBounds_toArray, List.set_cons_zero, List.set_cons_succ]
                  refine f_val (.slice (some ad) n1 c1) (by rfl) ?_ ?_
                  · intro w' hC; clear hC; go_simp
                  simp only [Act.put, List.setIfInBounds_toArray, List.set_cons_zero, List.set_cons_succ]
                  refine f_val (.int .i64 (i : Int)) (by rfl) ?_ ?_
                  · intro w' hC; clear hC; go_simp
                  simp only [Act.put, List.setIfInBounds_toArray, List.set_cons_zero, List.set_cons_succ]
                  refine f_val (.pointer (some (ad.add (i * 5)))) (by rfl) ?_ ?_
                  · intro w' hC; have k0 := HI.out; clear hC; go_simp
                  simp only [Act.put, List.setIfInBounds_toArray, List.set_cons_zero, List.set_cons_succ]
                  refine f_val (.pointer (some { block := (ad.add (i * 5)).block, off := (ad.add (i * 5)).off + 1 })) (by rfl) ?_ ?_
                  · intro w' hC; clear hC; go_simp
                  simp only [Act.put, List.setIfInBounds_toArray, List.set_cons_zero, List.set_cons_succ]
                  refine f_val (.pointer (some { block := (ad.add (i * 5)).block, off := (ad.add (i * 5)).off + 2 })) (by rfl) ?_ ?_
                  · intro w' hC; clear hC; go_simp
                  simp only [Act.put, List.setIfInBounds_toArray, List.set_cons_zero, List.set_cons_succ]
                  refine f_val (.string ⟨q1.toArray⟩) (by rfl) ?_ ?_
                  · intro w' hC; obtain ⟨z0, z1, z2, z3, z4⟩ := HLI.out w' hC; clear hC; go_simp
                  simp only [Act.put, List.setIfInBounds_toArray, List.set_cons_zero, List.set_cons_succ]
                  refine f_val (.bool true) (by rfl) ?_ ?_
                  · intro w' hC; have k0 := HEQ.out; clear hC; go_simp
                  simp only [Act.put, List.setIfInBounds_toArray, List.set_cons_zero, List.set_cons_succ]
                  refine wpF_end ?_
                  intro w5 hC hks
                  have HCw5 := Lib.hid hC
                  clear hC hks
                  have HLI5 := Lib.hid (fun w' (hg : Grows w5 w') => HLI.out w' (Grows.trans HCw5.out hg))
                  have HSL5 := Lib.hid (fun w' (hg : Grows w5 w') => HSL.out w' (Grows.trans HCw5.out hg))
                  have HXC5 := Lib.hid (fun w' (hg : Grows w5 w') => HXC.out w' (Grows.trans HCw5.out hg))
                  have HSV := Lib.hid (fun w' (hg : Grows w5 w') => HSVC.out kn HKE.out w' (Grows.trans (Grows.trans HG.out HCw5.out) hg))
                  have HI := Lib.hid (And.intro HI.out (show (kn : Int) < (sn : Int) from by have := HC.out.2.2.2.2; have := HSN.out; omega))
                  go_wp2_with (fail)
                  refine wp_region_facts (E := Grows) [valFact (.slice (some ad) n1 c1), valFact (.int .i64 (i : Int)), valFact (.pointer (some (ad.add (i * 5)))), valFact (.pointer (some (ad.add (i * 5)))), valFact (.int .i64 sv), valFact (.slice (some sa) sn sc), valFact (.int .i64 (kn : Int)), valFact (.pointer (some (sa.add kn))), valFact (.int .i64 sv), valFact (.bool false), valFact (.bool false), valFact (.slice (some ad) n1 c1), valFact (.int .i64 (i : Int)), valFact (.pointer (some (ad.add (i * 5)))), valFact (.pointer (some { block := (ad.add (i * 5)).block, off := (ad.add (i * 5)).off + 1 })), valFact (.agg #[.int .i64 q0, .string ⟨q1.toArray⟩, .int .i64 q2, .int .i64 q3]), valFact (.slice (some la) N c), valFact (.int .i64 (kn : Int)), valFact (.pointer (some (la.add kn))), valFact (.slice (some bd) m q), valFact (.int .i64 (j : Int)), valFact (.pointer (some (bd.add (j * 4)))), valFact (.agg #[.int .i64 q0, .string ⟨q1.toArray⟩, .int .i64 q2, .int .i64 q3]), valFact (.bool false), valFact (.bool false)] (by kernel_rfl) (by kernel_rfl) (fun _ _ _ => Grows.trans) (grows_drew _) ?_
                  refine f_val (.slice (some ad) n1 c1) (by rfl) ?_ ?_
                  · intro w' hC; clear hC; go_simp
                  simp only [Act.put, List.setIfInBounds_toArray, List.set_cons_zero, List.set_cons_succ]
                  refine f_val (.int .i64 (i : Int)) (by rfl) ?_ ?_
                  · intro w' hC; clear hC; go_simp
                  simp only [Act.put, List.setIfInBounds_toArray, List.set_cons_zero, List.set_cons_succ]
                  refine f_val (.pointer (some (ad.add (i * 5)))) (by rfl) ?_ ?_
                  · intro w' hC; have k0 := HI.out; clear hC; go_simp
                  simp only [Act.put, List.setIfInBounds_toArray, List.set_cons_zero, List.set_cons_succ]
                  refine f_val (.pointer (some (ad.add (i * 5)))) (by rfl) ?_ ?_
                  · intro w' hC; clear hC; go_simp
                  simp only [Act.put, List.setIfInBounds_toArray, List.set_cons_zero, List.set_cons_succ]
                  refine f_val (.int .i64 sv) (by rfl) ?_ ?_
                  · intro w' hC; obtain ⟨z0, z1, z2, z3, z4⟩ := HLI5.out w' hC; clear hC; go_simp
                  simp only [Act.put, List.setIfInBounds_toArray, List.set_cons_zero, List.set_cons_succ]
                  refine f_val (.slice (some sa) sn sc) (by rfl) ?_ ?_
                  · intro w' hC; clear hC; go_simp
                  simp only [Act.put, List.setIfInBounds_toArray, List.set_cons_zero, List.set_cons_succ]
                  refine f_val (.int .i64 (kn : Int)) (by rfl) ?_ ?_
                  · intro w' hC; clear hC; go_simp
                  simp only [Act.put, List.setIfInBounds_toArray, List.set_cons_zero, List.set_cons_succ]
                  refine f_val (.pointer (some (sa.add kn))) (by rfl) ?_ ?_
                  · intro w' hC; have k0 := HI.out; clear hC; go_simp
                  simp only [Act.put, List.setIfInBounds_toArray, List.set_cons_zero, List.set_cons_succ]
                  refine f_val (.int .i64 sv) (by rfl) ?_ ?_
                  · intro w' hC; have z := HSV.out w' hC; clear hC; go_simp
                  simp only [Act.put, List.setIfInBounds_toArray, List.set_cons_zero, List.set_cons_succ]
                  refine f_val (.bool false) (by rfl) ?_ ?_
                  · intro w' hC; clear hC; go_simp
                  simp only [Act.put, List.setIfInBounds_toArray, List.set_cons_zero, List.set_cons_succ]
                  refine f_val (.bool false) (by rfl) ?_ ?_
                  · intro w' hC; clear hC; go_simp
                  simp only [Act.put, List.setIfInBounds_toArray, List.set_cons_zero, List.set_cons_succ]
                  refine f_val (.slice (some ad) n1 c1) (by rfl) ?_ ?_
                  · intro w' hC; clear hC; go_simp
                  simp only [Act.put, List.setIfInBounds_toArray, List.set_cons_zero, List.set_cons_succ]
                  refine f_val (.int .i64 (i : Int)) (by rfl) ?_ ?_
                  · intro w' hC; clear hC; go_simp
                  simp only [Act.put, List.setIfInBounds_toArray, List.set_cons_zero, List.set_cons_succ]
                  refine f_val (.pointer (some (ad.add (i * 5)))) (by rfl) ?_ ?_
                  · intro w' hC; have k0 := HI.out; clear hC; go_simp
                  simp only [Act.put, List.setIfInBounds_toArray, List.set_cons_zero, List.set_cons_succ]
                  refine f_val (.pointer (some { block := (ad.add (i * 5)).block, off := (ad.add (i * 5)).off + 1 })) (by rfl) ?_ ?_
                  · intro w' hC; clear hC; go_simp
                  simp only [Act.put, List.setIfInBounds_toArray, List.set_cons_zero, List.set_cons_succ]
                  refine f_val (.agg #[.int .i64 q0, .string ⟨q1.toArray⟩, .int .i64 q2, .int .i64 q3]) (by rfl) ?_ ?_
                  · intro w' hC; obtain ⟨z0, z1, z2, z3, z4⟩ := HLI5.out w' hC; clear hC; go_simp
                  simp only [Act.put, List.setIfInBounds_toArray, List.set_cons_zero, List.set_cons_succ]
                  refine f_val (.slice (some la) N c) (by rfl) ?_ ?_
                  · intro w' hC; clear hC; go_simp
                  simp only [Act.put, List.setIfInBounds_toArray, List.set_cons_zero, List.set_cons_succ]
                  refine f_val (.int .i64 (kn : Int)) (by rfl) ?_ ?_
                  · intro w' hC; clear hC; go_simp
                  simp only [Act.put, List.setIfInBounds_toArray, List.set_cons_zero, List.set_cons_succ]
                  refine f_val (.pointer (some (la.add kn))) (by rfl) ?_ ?_
                  · intro w' hC; have k0 := HI.out; clear hC; go_simp
                  simp only [Act.put, List.setIfInBounds_toArray, List.set_cons_zero, List.set_cons_succ]
                  refine f_val (.slice (some bd) m q) (by rfl) ?_ ?_
                  · intro w' hC; have z := HSL5.out w' hC; clear hC; go_simp
                  simp only [Act.put, List.setIfInBounds_toArray, List.set_cons_zero, List.set_cons_succ]
                  refine f_val (.int .i64 (j : Int)) (by rfl) ?_ ?_
                  · intro w' hC; clear hC; go_simp
                  simp only [Act.put, List.setIfInBounds_toArray, List.set_cons_zero, List.set_cons_succ]
                  refine f_val (.pointer (some (bd.add (j * 4)))) (by rfl) ?_ ?_
                  · intro w' hC; have k0 := HI.out; clear hC; go_simp
                  simp only [Act.put, List.setIfInBounds_toArray, List.set_cons_zero, List.set_cons_succ]
                  refine f_val (.agg #[.int .i64 q0, .string ⟨q1.toArray⟩, .int .i64 q2, .int .i64 q3]) (by rfl) ?_ ?_
                  · intro w' hC; obtain ⟨z0, z1, z2, z3⟩ := HXC5.out w' hC; clear hC; go_simp
                  simp only [Act.put, List.setIfInBounds_toArray, List.set_cons_zero, List.set_cons_succ]
                  refine f_val (.bool false) (by rfl) ?_ ?_
                  · intro w' hC; clear hC; go_simp
                  simp only [Act.put, List.setIfInBounds_toArray, List.set_cons_zero, List.set_cons_succ]
                  refine f_val (.bool false) (by rfl) ?_ ?_
                  · intro w' hC; clear hC; go_simp
                  simp only [Act.put, List.setIfInBounds_toArray, List.set_cons_zero, List.set_cons_succ]
                  refine wpF_end ?_
                  intro w6 hC hks
                  have HCw6 := Lib.hid hC
                  clear hC hks
                  go_wp2_with (fail)
                  go_roundw
                  case rel => exact ⟨true, j + 1, by omega, rfl, by first | rfl | go_num, Lib.hid (fun hf => by cases hf), Lib.hid (Grows.trans (Grows.trans HG.out HCw5.out) HCw6.out)⟩
                  case measure => simp [intOf]; omega
              · obtain ⟨z1, hz1⟩ : ∃ z : Int, (kn : Int) - 1 = z := ⟨_, rfl⟩
                have HZ1 := Lib.hid hz1
                have hb1 : (kn : Int) ≤ 1000 := by have := HB.out; omega
                obtain ⟨bz1, bz2⟩ := wrapI (x := z1) (by omega) (by omega)
                have HEND := Lib.hid (show f = false → (k0 : Int) ≤ z1 from fun hf => by
                  have h0 : k0 ≠ kn := fun e => by
                    obtain ⟨l0, hl0, hm0⟩ := HK0.out.2.1
                    rw [e, HC.out.2.1] at hl0
                    injection hl0 with hl0
                    subst hl0
                    obtain ⟨j', hj', e'⟩ := List.mem_iff_getElem.1 hm0
                    exact HFJ.out hf j' _ (by have := HC.out.1.len; omega) (by rw [List.getElem?_eq_getElem hj', e']) rfl
                  have h1 := HC.out.2.2.2.1
                  omega)
                go_wp2_with (fail)
                go_roundw
                case rel => exact ⟨f, z1, rfl, by first | rfl | go_num, Lib.hid (by have := HZ1.out; omega), HEND, HG⟩
                case measure => have := HZ1.out; simp [intOf]; omega
          · have hzz := HZ.out
            by_cases hz0 : (0 : Int) ≤ z
            · go_wp2_with (fail)
              go_roundw
              case rel => exact ⟨i + 1, by omega, by first | rfl | go_num, HG⟩
              case measure => simp [intOf]; omega
            · go_wp2_with (fail)
              go_roundw
              case rel => exact ⟨i + 1, by omega, by first | rfl | go_num, HG⟩
              case measure => simp [intOf]; omega
      · obtain ⟨im, him⟩ : ∃ k : Nat, (i : Int) - 1 = (k : Int) := ⟨i - 1, by omega⟩
        have himn : im < n1 := by omega
        obtain ⟨ad', ⟨y9, ⟨y0, y1, y2, y3⟩⟩, ea, hpy, _, hcy⟩ := H3.out.1.at himn
        injection ea with ea
        subst ea
        obtain ⟨bw1, bw2⟩ := wrapI (x := (im : Int)) (by omega) (by omega)
        have HIM := Lib.hid (And.intro him (And.intro bw1 (And.intro bw2 (show (0 : Int) ≤ (im : Int) ∧ (im : Int) < (n1 : Int) from by omega))))
        have HYI := Lib.hid (show ∀ w', Grows wr w' → w'.cell? { block := (ad.add (im * 5)).block, off := (ad.add (im * 5)).off + 2 } = some (.string ⟨y1.toArray⟩) from fun w' hg => (hcy w' (Grows.trans HG0.out hg)).2.2.1)
        have HLI := Lib.hid (fun w' (hg : Grows wr w') => HLIC.out w' (Grows.trans HG0.out hg))
        have HLEQ := Lib.hid (show Op.bytesLess q1 y1 = false ∧ (q1 == y1) = false from by
          have hb : bytesBefore y1 q1 = true := by
            have hy2 : im < T.length := by have := (List.getElem?_eq_some_iff.1 HTI.out).1; have := HIM.out.1; omega
            have h1 := sorted_at HFO.out.rise (List.getElem?_eq_getElem hy2) HTI.out (by have := HIM.out.1; omega)
            rw [HTL.out.1, List.getElem?_map, List.getElem?_eq_getElem hy2] at hpy
            injection hpy with hpy
            have h2 := congrArg (fun p : Fp => p.2.key) hpy
            simp only [segF] at h2
            rwa [h2] at h1
          have := fleq q1 y1
          rw [hb, Bool.not_true, Bool.or_eq_false_iff] at this
          exact this)
        have HPOS := Lib.hid (show 0 < i from by omega)
        have HI := Lib.hid (And.intro HII.out HIM.out.2.2.2)
        clear him bw1 bw2 hpy hcy himn
        go_wp2_with (fail)
        refine wp_region_facts (E := Grows) [valFact (.int .i64 (i : Int)), valFact (.bool true), valFact (.bool true), valFact (.slice (some ad) n1 c1), valFact (.int .i64 (i : Int)), valFact (.pointer (some (ad.add (i * 5)))), valFact (.pointer (some { block := (ad.add (i * 5)).block, off := (ad.add (i * 5)).off + 1 })), valFact (.pointer (some { block := (ad.add (i * 5)).block, off := (ad.add (i * 5)).off + 2 })), valFact (.string ⟨q1.toArray⟩), valFact (.slice (some ad) n1 c1), valFact (.int .i64 (i : Int)), valFact (.int .i64 (im : Int)), valFact (.pointer (some (ad.add (im * 5)))), valFact (.pointer (some { block := (ad.add (im * 5)).block, off := (ad.add (im * 5)).off + 1 })), valFact (.pointer (some { block := (ad.add (im * 5)).block, off := (ad.add (im * 5)).off + 2 })), valFact (.string ⟨y1.toArray⟩), valFact (.bool false), valFact (.bool false)] (by kernel_rfl) (by kernel_rfl) (fun _ _ _ => Grows.trans) (grows_drew _) ?_
        refine f_val (.int .i64 (i : Int)) (by rfl) ?_ ?_
        · intro w' hC; clear hC; go_simp
        simp only [Act.put, List.setIfInBounds_toArray, List.set_cons_zero, List.set_cons_succ]
        refine f_val (.bool true) (by rfl) ?_ ?_
        · intro w' hC; have k0 := HPOS.out; clear hC; go_simp
        simp only [Act.put, List.setIfInBounds_toArray, List.set_cons_zero, List.set_cons_succ]
        refine f_val (.bool true) (by rfl) ?_ ?_
        · intro w' hC; clear hC; go_simp
        simp only [Act.put, List.setIfInBounds_toArray, List.set_cons_zero, List.set_cons_succ]
        refine f_val (.slice (some ad) n1 c1) (by rfl) ?_ ?_
        · intro w' hC; clear hC; go_simp
        simp only [Act.put, List.setIfInBounds_toArray, List.set_cons_zero, List.set_cons_succ]
        refine f_val (.int .i64 (i : Int)) (by rfl) ?_ ?_
        · intro w' hC; clear hC; go_simp
        simp only [Act.put, List.setIfInBounds_toArray, List.set_cons_zero, List.set_cons_succ]
        refine f_val (.pointer (some (ad.add (i * 5)))) (by rfl) ?_ ?_
        · intro w' hC; have k0 := HI.out; clear hC; go_simp
        simp only [Act.put, List.setIfInBounds_toArray, List.set_cons_zero, List.set_cons_succ]
        refine f_val (.pointer (some { block := (ad.add (i * 5)).block, off := (ad.add (i * 5)).off + 1 })) (by rfl) ?_ ?_
        · intro w' hC; clear hC; go_simp
        simp only [Act.put, List.setIfInBounds_toArray, List.set_cons_zero, List.set_cons_succ]
        refine f_val (.pointer (some { block := (ad.add (i * 5)).block, off := (ad.add (i * 5)).off + 2 })) (by rfl) ?_ ?_
        · intro w' hC; clear hC; go_simp
        simp only [Act.put, List.setIfInBounds_toArray, List.set_cons_zero, List.set_cons_succ]
        refine f_val (.string ⟨q1.toArray⟩) (by rfl) ?_ ?_
        · intro w' hC; obtain ⟨z0, z1, z2, z3, z4⟩ := HLI.out w' hC; clear hC; go_simp
        simp only [Act.put, List.setIfInBounds_toArray, List.set_cons_zero, List.set_cons_succ]
        refine f_val (.slice (some ad) n1 c1) (by rfl) ?_ ?_
        · intro w' hC; clear hC; go_simp
        simp only [Act.put, List.setIfInBounds_toArray, List.set_cons_zero, List.set_cons_succ]
        refine f_val (.int .i64 (i : Int)) (by rfl) ?_ ?_
        · intro w' hC; clear hC; go_simp
        simp only [Act.put, List.setIfInBounds_toArray, List.set_cons_zero, List.set_cons_succ]
        refine f_val (.int .i64 (im : Int)) (by rfl) ?_ ?_
        · intro w' hC; have k0 := HIM.out; clear hC; go_simp
        simp only [Act.put, List.setIfInBounds_toArray, List.set_cons_zero, List.set_cons_succ]
        refine f_val (.pointer (some (ad.add (im * 5)))) (by rfl) ?_ ?_
        · intro w' hC; have k0 := HI.out; clear hC; go_simp
        simp only [Act.put, List.setIfInBounds_toArray, List.set_cons_zero, List.set_cons_succ]
        refine f_val (.pointer (some { block := (ad.add (im * 5)).block, off := (ad.add (im * 5)).off + 1 })) (by rfl) ?_ ?_
        · intro w' hC; clear hC; go_simp
        simp only [Act.put, List.setIfInBounds_toArray, List.set_cons_zero, List.set_cons_succ]
        refine f_val (.pointer (some { block := (ad.add (im * 5)).block, off := (ad.add (im * 5)).off + 2 })) (by rfl) ?_ ?_
        · intro w' hC; clear hC; go_simp
        simp only [Act.put, List.setIfInBounds_toArray, List.set_cons_zero, List.set_cons_succ]
        refine f_val (.string ⟨y1.toArray⟩) (by rfl) ?_ ?_
        · intro w' hC; have z2 := HYI.out w' hC; clear hC; go_simp
        simp only [Act.put, List.setIfInBounds_toArray, List.set_cons_zero, List.set_cons_succ]
        refine f_val (.bool false) (by rfl) ?_ ?_
        · intro w' hC; have k0 := HLEQ.out; clear hC; go_simp
        simp only [Act.put, List.setIfInBounds_toArray, List.set_cons_zero, List.set_cons_succ]
        refine f_val (.bool false) (by rfl) ?_ ?_
        · intro w' hC; clear hC; go_simp
        simp only [Act.put, List.setIfInBounds_toArray, List.set_cons_zero, List.set_cons_succ]
        refine wpF_end ?_
        intro w4 hC hks
        have HCw4 := Lib.hid hC
        clear hC hks
        have G4 := Lib.hid (Grows.trans HG0.out HCw4.out)
        clear HI HLI
        have hN1 : N ≤ 1000 := by have := HB.out; omega
        obtain ⟨zN, hzN⟩ : ∃ z : Int, (N : Int) - 1 = z := ⟨_, rfl⟩
        have HZN := Lib.hid hzN
        obtain ⟨bz1, bz2⟩ := wrapI (x := zN) (by omega) (by omega)
        clear hN1
        go_wp2_with (fail)
        clear bz1 bz2 hzN
        go_loopw [10, 11, 12] (fun vf vk _ wr => ∃ (f : Bool) (z : Int), vf = .bool f ∧ vk = .int .i64 z ∧ Hid (-1 ≤ z ∧ z < (N : Int)) ∧ Hid (f = false → (k0 : Int) ≤ z) ∧ Hid (Grows w3 wr)) (fun _ vk _ _ => (intOf vk + 1).toNat)
        case atStart => exact ⟨false, zN, rfl, rfl, Lib.hid (by have := HZN.out; omega), Lib.hid (fun _ => by have := HZN.out; have := HK0.out.1; omega), G4⟩
        case round =>
          obtain ⟨f, z, rfl, rfl, HZ, HF, HG⟩ := hrel
          cases f
          · obtain ⟨kn, hkn⟩ : ∃ k : Nat, z = (k : Int) := ⟨z.toNat, by have := HF.out rfl; omega⟩
            subst hkn
            have hk0 : k0 ≤ kn := by have := HF.out rfl; omega
            have hkN : kn < N := by have := HZ.out; omega
            obtain ⟨la, B, m, q, li, e1, hli, hts, hbl, hcell⟩ := HX.out.2.1.at hkN
            subst e1
            have hpos : (0 : Int) ≤ (kn : Int) := by omega
            have hkN2 : (kn : Int) < (N : Int) := by omega
            have HC := Lib.hid (And.intro hts (And.intro hli (And.intro hcell (And.intro hk0 hkN))))
            have hml : m ≤ 9000 := by have := hts.len; have := manyL_mem hli; have := HB.out; omega
            clear hts hli hcell hbl hk0 hkN
            go_wp2_with (fail)
            go_loopw [10, 12] (fun vf vj wr => ∃ (f : Bool) (j : Nat), j ≤ m ∧ vf = .bool f ∧ vj = .int .i64 (j : Int) ∧ Hid (f = false → ∀ (j' : Nat) (x : Ht), j' < j → li[j']? = some x → x.key ≠ q1) ∧ Hid (Grows w3 wr)) (fun _ vj _ => m - (intOf vj).toNat)
            case atStart => exact ⟨false, 0, Nat.zero_le _, rfl, rfl, Lib.hid (fun _ j' x h => by omega), HG⟩
            case round =>
              clear HG
              obtain ⟨f, j, hj, rfl, rfl, HFJ, HG⟩ := hrel
              have hcw := HC.out.2.2.1 wr (Grows.trans HGW.out HG.out)
              by_cases hlt : j < m
              · obtain ⟨bd, ⟨x0, x1, x2, x3⟩, e2, hxj, _, hxc⟩ := HC.out.1.at hlt
                subst e2
                dsimp only at hxc
                have HXJ := Lib.hid hxj
                have hj2 : (0 : Int) ≤ (j : Int) := by omega
                have hj3 : (j : Int) < (m : Int) := by omega
                have HI := Lib.hid (And.intro HII.out (And.intro hpos (And.intro hkN2 (And.intro hj2 hj3))))
                have HLI := Lib.hid (fun w' (hg : Grows wr w') => HLIC.out w' (Grows.trans HG.out hg))
                have HSL := Lib.hid (fun w' (hg : Grows wr w') => HC.out.2.2.1 w' (Grows.trans HGW.out (Grows.trans HG.out hg)))
                have HXC := Lib.hid (fun w' (hg : Grows wr w') => hxc w' (Grows.trans HGW.out (Grows.trans HG.out hg)))
                clear hxj hxc
                rcases heq : (x1 == q1) with _ | _
                · have HEQ := Lib.hid heq
                  clear heq
                  go_wp2_with (fail)
                  refine wp_region_facts (E := Grows) [valFact (.slice (some la) N c), valFact (.int .i64 (kn : Int)), valFact (.pointer (some (la.add kn))), valFact (.slice (some bd) m q), valFact (.int .i64 (j : Int)), valFact (.pointer (some (bd.add (j * 4)))), valFact (.pointer (some { block := (bd.add (j * 4)).block, off := (bd.add (j * 4)).off + 1 })), valFact (.string ⟨x1.toArray⟩), valFact (.slice (some ad) n1 c1), valFact (.int .i64 (i : Int)), valFact (.pointer (some (ad.add (i * 5)))), valFact (.pointer (some { block := (ad.add (i * 5)).block, off := (ad.add (i * 5)).off + 1 })), valFact (.pointer (some { block := (ad.add (i * 5)).block, off := (ad.add (i * 5)).off + 2 })), valFact (.string ⟨q1.toArray⟩), valFact (.bool false)] (by kernel_rfl) (by kernel_rfl) (fun _ _ _ => Grows.trans) (grows_drew _) ?_
                  refine f_val (.slice (some la) N c) (by rfl) ?_ ?_
                  · intro w' hC; clear hC; go_simp
                  simp only [Act.put, List.setIfInBounds_toArray, List.set_cons_zero, List.set_cons_succ]
                  refine f_val (.int .i64 (kn : Int)) (by rfl) ?_ ?_
                  · intro w' hC; clear hC; go_simp
                  simp only [Act.put, List.setIfInBounds_toArray, List.set_cons_zero, List.set_cons_succ]
                  refine f_val (.pointer (some (la.add kn))) (by rfl) ?_ ?_
                  · intro w' hC; have k0 := HI.out; clear hC; go_simp
                  simp only [Act.put, List.setIfInBounds_toArray, List.set_cons_zero, List.set_cons_succ]
                  refine f_val (.slice (some bd) m q) (by rfl) ?_ ?_
                  · intro w' hC; have z := HSL.out w' hC; clear hC; go_simp
                  simp only [Act.put, List.setIfInBounds_toArray, List.set_cons_zero, List.set_cons_succ]
                  refine f_val (.int .i64 (j : Int)) (by rfl) ?_ ?_
                  · intro w' hC; clear hC; go_simp
                  simp only [Act.put, List.setIfInBounds_toArray, List.set_cons_zero, List.set_cons_succ]
                  refine f_val (.pointer (some (bd.add (j * 4)))) (by rfl) ?_ ?_
                  · intro w' hC; have k0 := HI.out; clear hC; go_simp
                  simp only [Act.put, List.setIfInBounds_toArray, List.set_cons_zero, List.set_cons_succ]
                  refine f_val (.pointer (some { block := (bd.add (j * 4)).block, off := (bd.add (j * 4)).off + 1 })) (by rfl) ?_ ?_
                  · intro w' hC; clear hC; go_simp
                  simp only [Act.put, List.setIfInBounds_toArray, List.set_cons_zero, List.set_cons_succ]
                  refine f_val (.string ⟨x1.toArray⟩) (by rfl) ?_ ?_
                  · intro w' hC; obtain ⟨z0, z1, z2, z3⟩ := HXC.out w' hC; clear hC; go_simp
                  simp only [Act.put, List.setIfInBounds_toArray, List.set_cons_zero, List.set_cons_succ]
                  refine f_val (.slice (some ad) n1 c1) (by rfl) ?_ ?_
                  · intro w' hC; clear hC; go_simp
                  simp only [Act.put, List.setIfInBounds_toArray, List.set_cons_zero, List.set_cons_succ]
                  refine f_val (.int .i64 (i : Int)) (by rfl) ?_ ?_
                  · intro w' hC; clear hC; go_simp
                  simp only [Act.put, List.setIfInBounds_toArray, List.set_cons_zero, List.set_cons_succ]
                  refine f_val (.pointer (some (ad.add (i * 5)))) (by rfl) ?_ ?_
                  · intro w' hC; have k0 := HI.out; clear hC; go_simp
                  simp only [Act.put, List.setIfInBounds_toArray, List.set_cons_zero, List.set_cons_succ]
                  refine f_val (.pointer (some { block := (ad.add (i * 5)).block, off := (ad.add (i * 5)).off + 1 })) (by rfl) ?_ ?_
                  · intro w' hC; clear hC; go_simp
                  simp only [Act.put, List.setIfInBounds_toArray, List.set_cons_zero, List.set_cons_succ]
                  refine f_val (.pointer (some { block := (ad.add (i * 5)).block, off := (ad.add (i * 5)).off + 2 })) (by rfl) ?_ ?_
                  · intro w' hC; clear hC; go_simp
                  simp only [Act.put, List.setIfInBounds_toArray, List.set_cons_zero, List.set_cons_succ]
                  refine f_val (.string ⟨q1.toArray⟩) (by rfl) ?_ ?_
                  · intro w' hC; obtain ⟨z0, z1, z2, z3, z4⟩ := HLI.out w' hC; clear hC; go_simp
                  simp only [Act.put, List.setIfInBounds_toArray, List.set_cons_zero, List.set_cons_succ]
                  refine f_val (.bool false) (by rfl) ?_ ?_
                  · intro w' hC; have k0 := HEQ.out; clear hC; go_simp
                  simp only [Act.put, List.setIfInBounds_toArray, List.set_cons_zero, List.set_cons_succ]
                  refine wpF_end ?_
                  intro w5 hC hks
                  have HCw5 := Lib.hid hC
                  clear hC hks
                  go_wp2_with (fail)
                  go_roundw
                  case rel => exact ⟨f, j + 1, by omega, rfl, by first | rfl | go_num, Lib.hid (fun hf j' x hj' hx => by
                    by_cases e : j' = j
                    · subst e
                      rw [HXJ.out] at hx
                      injection hx with hx
                      rw [← hx]
                      have := HEQ.out
                      simpa using this
                    · exact HFJ.out hf j' x (by omega) hx), Lib.hid (Grows.trans HG.out HCw5.out)⟩
                  case measure => simp [intOf]; omega
                · have HEQ := Lib.hid heq
                  have hkk : x1 = q1 := by simpa using heq
                  have hke : kn = k0 := by
                    have h1 := HK0.out.2.2 kn ⟨x0, x1, x2, x3⟩ ⟨li, HC.out.2.1, List.mem_of_getElem? HXJ.out⟩ hkk
                    have h2 := HC.out.2.2.2.1
                    omega
                  have hxe : (⟨x0, x1, x2, x3⟩ : Ht) = ⟨q0, q1, q2, q3⟩ := by
                    obtain ⟨l0, hl0, hm0⟩ := HK0.out.2.1
                    rw [← hke, HC.out.2.1] at hl0
                    injection hl0 with hl0
                    subst hl0
                    exact Rising.key (HUP.out li (List.mem_of_getElem? HC.out.2.1)) (List.mem_of_getElem? HXJ.out) hm0 hkk
                  have HKE := Lib.hid hke
                  clear heq hkk hke
                  injection hxe.symm with e0 e1 e2 e3
                  subst e0 e1 e2 e3
                  go_wp2_with (fail)
                  refine wp_region_facts (E := Grows) [valFact (.slice (some la) N c), valFact (.int .i64 (kn : Int)), valFact (.pointer (some (la.add kn))), valFact (.slice (some bd) m q), valFact (.int .i64 (j : Int)), valFact (.pointer (some (bd.add (j * 4)))), valFact (.pointer (some { block := (bd.add (j * 4)).block, off := (bd.add (j * 4)).off + 1 })), valFact (.string ⟨q1.toArray⟩), valFact (.slice (some ad) n1 c1), valFact (.int .i64 (i : Int)), valFact (.pointer (some (ad.add (i * 5)))), valFact (.pointer (some { block := (ad.add (i * 5)).block, off := (ad.add (i * 5)).off + 1 })), valFact (.pointer (some { block := (ad.add (i * 5)).block, off := (ad.add (i * 5)).off + 2 })), valFact (.string ⟨q1.toArray⟩), valFact (.bool true)] (by kernel_rfl) (by kernel_rfl) (fun _ _ _ => Grows.trans) (grows_drew _) ?_
                  refine f_val (.slice (some la) N c) (by rfl) ?_ ?_
                  · intro w' hC; clear hC; go_simp
                  simp only [Act.put, List.setIfInBounds_toArray, List.set_cons_zero, List.set_cons_succ]
                  refine f_val (.int .i64 (kn : Int)) (by rfl) ?_ ?_
                  · intro w' hC; clear hC; go_simp
                  simp only [Act.put, List.setIfInBounds_toArray, List.set_cons_zero, List.set_cons_succ]
                  refine f_val (.pointer (some (la.add kn))) (by rfl) ?_ ?_
                  · intro w' hC; have k0 := HI.out; clear hC; go_simp
                  simp only [Act.put, List.setIfInBounds_toArray, List.set_cons_zero, List.set_cons_succ]
                  refine f_val (.slice (some bd) m q) (by rfl) ?_ ?_
                  · intro w' hC; have z := HSL.out w' hC; clear hC; go_simp
                  simp only [Act.put, List.setIfInBounds_toArray, List.set_cons_zero, List.set_cons_succ]
                  refine f_val (.int .i64 (j : Int)) (by rfl) ?_ ?_
                  · intro w' hC; clear hC; go_simp
                  simp only [Act.put, List.setIfInBounds_toArray, List.set_cons_zero, List.set_cons_succ]
                  refine f_val (.pointer (some (bd.add (j * 4)))) (by rfl) ?_ ?_
                  · intro w' hC; have k0 := HI.out; clear hC; go_simp
                  simp only [Act.put, List.setIfInBounds_toArray, List.set_cons_zero, List.set_cons_succ]
                  refine f_val (.pointer (some { block := (bd.add (j * 4)).block, off := (bd.add (j * 4)).off + 1 })) (by rfl) ?_ ?_
                  · intro w' hC; clear hC; go_simp
                  simp only [Act.put, List.setIfInBounds_toArray, List.set_cons_zero, List.set_cons_succ]
                  refine f_val (.string ⟨q1.toArray⟩) (by rfl) ?_ ?_
                  · intro w' hC; obtain ⟨z0, z1, z2, z3⟩ := HXC.out w' hC; clear hC; go_simp
                  simp only [Act.put, List.setIfInBounds_toArray, List.set_cons_zero, List.set_cons_succ]
                  refine f_val (.slice (some ad) n1 c1) (by rfl) ?_ ?_
                  · intro w' hC; clear hC; go_simp
                  simp only [Act.put, List.setIfInBounds_toArray, List.set_cons_zero, List.set_cons_succ]
                  refine f_val (.int .i64 (i : Int)) (by rfl) ?_ ?_
                  · intro w' hC; clear hC; go_simp
                  simp only [Act.put, List.setIfInBounds_toArray, List.set_cons_zero, List.set_cons_succ]
                  refine f_val (.pointer (some (ad.add (i * 5)))) (by rfl) ?_ ?_
                  · intro w' hC; have k0 := HI.out; clear hC; go_simp
                  simp only [Act.put, List.setIfInBounds_toArray, List.set_cons_zero, List.set_cons_succ]
                  refine f_val (.pointer (some { block := (ad.add (i * 5)).block, off := (ad.add (i * 5)).off + 1 })) (by rfl) ?_ ?_
                  · intro w' hC; clear hC; go_simp
                  simp only [Act.put, List.setIfInBounds_toArray, List.set_cons_zero, List.set_cons_succ]
                  refine f_val (.pointer (some { block := (ad.add (i * 5)).block, off := (ad.add (i * 5)).off + 2 })) (by rfl) ?_ ?_
                  · intro w' hC; clear hC; go_simp
                  simp only [Act.put, List.setIfInBounds_toArray, List.set_cons_zero, List.set_cons_succ]
                  refine f_val (.string ⟨q1.toArray⟩) (by rfl) ?_ ?_
                  · intro w' hC; obtain ⟨z0, z1, z2, z3, z4⟩ := HLI.out w' hC; clear hC; go_simp
                  simp only [Act.put, List.setIfInBounds_toArray, List.set_cons_zero, List.set_cons_succ]
                  refine f_val (.bool true) (by rfl) ?_ ?_
                  · intro w' hC; have k0 := HEQ.out; clear hC; go_simp
                  simp only [Act.put, List.setIfInBounds_toArray, List.set_cons_zero, List.set_cons_succ]
                  refine wpF_end ?_
                  intro w5 hC hks
                  have HCw5 := Lib.hid hC
                  clear hC hks
                  have HLI5 := Lib.hid (fun w' (hg : Grows w5 w') => HLI.out w' (Grows.trans HCw5.out hg))
                  have HSL5 := Lib.hid (fun w' (hg : Grows w5 w') => HSL.out w' (Grows.trans HCw5.out hg))
                  have HXC5 := Lib.hid (fun w' (hg : Grows w5 w') => HXC.out w' (Grows.trans HCw5.out hg))
                  have HSV := Lib.hid (fun w' (hg : Grows w5 w') => HSVC.out kn HKE.out w' (Grows.trans (Grows.trans HG.out HCw5.out) hg))
                  have HI := Lib.hid (And.intro HI.out (show (kn : Int) < (sn : Int) from by have := HC.out.2.2.2.2; have := HSN.out; omega))
                  go_wp2_with (fail)
                  refine wp_region_facts (E := Grows) [valFact (.slice (some ad) n1 c1), valFact (.int .i64 (i : Int)), valFact (.pointer (some (ad.add (i * 5)))), valFact (.pointer (some (ad.add (i * 5)))), valFact (.int .i64 sv), valFact (.slice (some sa) sn sc), valFact (.int .i64 (kn : Int)), valFact (.pointer (some (sa.add kn))), valFact (.int .i64 sv), valFact (.bool false), valFact (.bool false), valFact (.slice (some ad) n1 c1), valFact (.int .i64 (i : Int)), valFact (.pointer (some (ad.add (i * 5)))), valFact (.pointer (some { block := (ad.add (i * 5)).block, off := (ad.add (i * 5)).off + 1 })), valFact (.agg #[.int .i64 q0, .string ⟨q1.toArray⟩, .int .i64 q2, .int .i64 q3]), valFact (.slice (some la) N c), valFact (.int .i64 (kn : Int)), valFact (.pointer (some (la.add kn))), valFact (.slice (some bd) m q), valFact (.int .i64 (j : Int)), valFact (.pointer (some (bd.add (j * 4)))), valFact (.agg #[.int .i64 q0, .string ⟨q1.toArray⟩, .int .i64 q2, .int .i64 q3]), valFact (.bool false), valFact (.bool false)] (by kernel_rfl) (by kernel_rfl) (fun _ _ _ => Grows.trans) (grows_drew _) ?_
                  refine f_val (.slice (some ad) n1 c1) (by rfl) ?_ ?_
                  · intro w' hC; clear hC; go_simp
                  simp only [Act.put, List.setIfInBounds_toArray, List.set_cons_zero, List.set_cons_succ]
                  refine f_val (.int .i64 (i : Int)) (by rfl) ?_ ?_
                  · intro w' hC; clear hC; go_simp
                  simp only [Act.put, List.setIfInBounds_toArray, List.set_cons_zero, List.set_cons_succ]
                  refine f_val (.pointer (some (ad.add (i * 5)))) (by rfl) ?_ ?_
                  · intro w' hC; have k0 := HI.out; clear hC; go_simp
                  simp only [Act.put, List.setIfInBounds_toArray, List.set_cons_zero, List.set_cons_succ]
                  refine f_val (.pointer (some (ad.add (i * 5)))) (by rfl) ?_ ?_
                  · intro w' hC; clear hC; go_simp
                  simp only [Act.put, List.setIfInBounds_toArray, List.set_cons_zero, List.set_cons_succ]
                  refine f_val (.int .i64 sv) (by rfl) ?_ ?_
                  · intro w' hC; obtain ⟨z0, z1, z2, z3, z4⟩ := HLI5.out w' hC; clear hC; go_simp
                  simp only [Act.put, List.setIfInBounds_toArray, List.set_cons_zero, List.set_cons_succ]
                  refine f_val (.slice (some sa) sn sc) (by rfl) ?_ ?_
                  · intro w' hC; clear hC; go_simp
                  simp only [Act.put, List.setIfInBounds_toArray, List.set_cons_zero, List.set_cons_succ]
                  refine f_val (.int .i64 (kn : Int)) (by rfl) ?_ ?_
                  · intro w' hC; clear hC; go_simp
                  simp only [Act.put, List.setIfInBounds_toArray, List.set_cons_zero, List.set_cons_succ]
                  refine f_val (.pointer (some (sa.add kn))) (by rfl) ?_ ?_
                  · intro w' hC; have k0 := HI.out; clear hC; go_simp
                  simp only [Act.put, List.setIfInBounds_toArray, List.set_cons_zero, List.set_cons_succ]
                  refine f_val (.int .i64 sv) (by rfl) ?_ ?_
                  · intro w' hC; have z := HSV.out w' hC; clear hC; go_simp
                  simp only [Act.put, List.setIfInBounds_toArray, List.set_cons_zero, List.set_cons_succ]
                  refine f_val (.bool false) (by rfl) ?_ ?_
                  · intro w' hC; clear hC; go_simp
                  simp only [Act.put, List.setIfInBounds_toArray, List.set_cons_zero, List.set_cons_succ]
                  refine f_val (.bool false) (by rfl) ?_ ?_
                  · intro w' hC; clear hC; go_simp
                  simp only [Act.put, List.setIfInBounds_toArray, List.set_cons_zero, List.set_cons_succ]
                  refine f_val (.slice (some ad) n1 c1) (by rfl) ?_ ?_
                  · intro w' hC; clear hC; go_simp
                  simp only [Act.put, List.setIfInBounds_toArray, List.set_cons_zero, List.set_cons_succ]
                  refine f_val (.int .i64 (i : Int)) (by rfl) ?_ ?_
                  · intro w' hC; clear hC; go_simp
                  simp only [Act.put, List.setIfInBounds_toArray, List.set_cons_zero, List.set_cons_succ]
                  refine f_val (.pointer (some (ad.add (i * 5)))) (by rfl) ?_ ?_
                  · intro w' hC; have k0 := HI.out; clear hC; go_simp
                  simp only [Act.put, List.setIfInBounds_toArray, List.set_cons_zero, List.set_cons_succ]
                  refine f_val (.pointer (some { block := (ad.add (i * 5)).block, off := (ad.add (i * 5)).off + 1 })) (by rfl) ?_ ?_
                  · intro w' hC; clear hC; go_simp
                  simp only [Act.put, List.setIfInBounds_toArray, List.set_cons_zero, List.set_cons_succ]
                  refine f_val (.agg #[.int .i64 q0, .string ⟨q1.toArray⟩, .int .i64 q2, .int .i64 q3]) (by rfl) ?_ ?_
                  · intro w' hC; obtain ⟨z0, z1, z2, z3, z4⟩ := HLI5.out w' hC; clear hC; go_simp
                  simp only [Act.put, List.setIfInBounds_toArray, List.set_cons_zero, List.set_cons_succ]
                  refine f_val (.slice (some la) N c) (by rfl) ?_ ?_
                  · intro w' hC; clear hC; go_simp
                  simp only [Act.put, List.setIfInBounds_toArray, List.set_cons_zero, List.set_cons_succ]
                  refine f_val (.int .i64 (kn : Int)) (by rfl) ?_ ?_
                  · intro w' hC; clear hC; go_simp
                  simp only [Act.put, List.setIfInBounds_toArray, List.set_cons_zero, List.set_cons_succ]
                  refine f_val (.pointer (some (la.add kn))) (by rfl) ?_ ?_
                  · intro w' hC; have k0 := HI.out; clear hC; go_simp
                  simp only [Act.put, List.setIfInBounds_toArray, List.set_cons_zero, List.set_cons_succ]
                  refine f_val (.slice (some bd) m q) (by rfl) ?_ ?_
                  · intro w' hC; have z := HSL5.out w' hC; clear hC; go_simp
                  simp only [Act.put, List.setIfInBounds_toArray, List.set_cons_zero, List.set_cons_succ]
                  refine f_val (.int .i64 (j : Int)) (by rfl) ?_ ?_
                  · intro w' hC; clear hC; go_simp
                  simp only [Act.put, List.setIfInBounds_toArray, List.set_cons_zero, List.set_cons_succ]
                  refine f_val (.pointer (some (bd.add (j * 4)))) (by rfl) ?_ ?_
                  · intro w' hC; have k0 := HI.out; clear hC; go_simp
                  simp only [Act.put, List.setIfInBounds_toArray, List.set_cons_zero, List.set_cons_succ]
                  refine f_val (.agg #[.int .i64 q0, .string ⟨q1.toArray⟩, .int .i64 q2, .int .i64 q3]) (by rfl) ?_ ?_
                  · intro w' hC; obtain ⟨z0, z1, z2, z3⟩ := HXC5.out w' hC; clear hC; go_simp
                  simp only [Act.put, List.setIfInBounds_toArray, List.set_cons_zero, List.set_cons_succ]
                  refine f_val (.bool false) (by rfl) ?_ ?_
                  · intro w' hC; clear hC; go_simp
                  simp only [Act.put, List.setIfInBounds_toArray, List.set_cons_zero, List.set_cons_succ]
                  refine f_val (.bool false) (by rfl) ?_ ?_
                  · intro w' hC; clear hC; go_simp
                  simp only [Act.put, List.setIfInBounds_toArray, List.set_cons_zero, List.set_cons_succ]
                  refine wpF_end ?_
                  intro w6 hC hks
                  have HCw6 := Lib.hid hC
                  clear hC hks
                  go_wp2_with (fail)
                  go_roundw
                  case rel => exact ⟨true, j + 1, by omega, rfl, by first | rfl | go_num, Lib.hid (fun hf => by cases hf), Lib.hid (Grows.trans (Grows.trans HG.out HCw5.out) HCw6.out)⟩
                  case measure => simp [intOf]; omega
              · obtain ⟨z1, hz1⟩ : ∃ z : Int, (kn : Int) - 1 = z := ⟨_, rfl⟩
                have HZ1 := Lib.hid hz1
                have hb1 : (kn : Int) ≤ 1000 := by have := HB.out; omega
                obtain ⟨bz1, bz2⟩ := wrapI (x := z1) (by omega) (by omega)
                have HEND := Lib.hid (show f = false → (k0 : Int) ≤ z1 from fun hf => by
                  have h0 : k0 ≠ kn := fun e => by
                    obtain ⟨l0, hl0, hm0⟩ := HK0.out.2.1
                    rw [e, HC.out.2.1] at hl0
                    injection hl0 with hl0
                    subst hl0
                    obtain ⟨j', hj', e'⟩ := List.mem_iff_getElem.1 hm0
                    exact HFJ.out hf j' _ (by have := HC.out.1.len; omega) (by rw [List.getElem?_eq_getElem hj', e']) rfl
                  have h1 := HC.out.2.2.2.1
                  omega)
                go_wp2_with (fail)
                go_roundw
                case rel => exact ⟨f, z1, rfl, by first | rfl | go_num, Lib.hid (by have := HZ1.out; omega), HEND, HG⟩
                case measure => have := HZ1.out; simp [intOf]; omega
          · have hzz := HZ.out
            by_cases hz0 : (0 : Int) ≤ z
            · go_wp2_with (fail)
              go_roundw
              case rel => exact ⟨i + 1, by omega, by first | rfl | go_num, HG⟩
              case measure => simp [intOf]; omega
            · go_wp2_with (fail)
              go_roundw
              case rel => exact ⟨i + 1, by omega, by first | rfl | go_num, HG⟩
              case measure => simp [intOf]; omega
    · obtain rfl : n1 = i := by omega
      go_wp2_with (fail)
      clear hlt hi
      have HGA := Lib.hid HG0.out
      clear HG0
      go_loopw [8, 13, 14, 15, 16] (fun vm vk _ _ _ wr => ∃ (M k : Nat), k ≤ N ∧ M ≤ 9000 ∧ vm = .int .i64 (M : Int) ∧ vk = .int .i64 (k : Int) ∧ Hid (M = manyL (ls.take k)) ∧ Hid (Grows w3 wr)) (fun _ vk _ _ _ _ => N - (intOf vk).toNat)
      case atStart => exact ⟨0, 0, Nat.zero_le _, Nat.zero_le _, rfl, rfl, Lib.hid (by simp [manyL]), HGA⟩
      case round =>
        clear HGA
        obtain ⟨M, k, hk, hM, rfl, rfl, HM, HG⟩ := hrel
        have hN100 : N ≤ 100 := HB.out.1
        by_cases hltk : k < N
        · obtain ⟨la, B, m, q, li, e1, hli, hts, hbl, hcell⟩ := HX.out.2.1.at hltk
          subst e1
          have hk1 : (0 : Int) ≤ (k : Int) := by omega
          have hk2 : (k : Int) < (N : Int) := by omega
          have HC := Lib.hid (And.intro hts (And.intro hli hcell))
          have hmM : M + m ≤ 9000 := by
            have h1 := hts.len
            have h2 := manyL_take hli
            have h3 := manyL_le ls (k + 1)
            have := HB.out
            have := HM.out
            omega
          clear hts hli hcell hbl hltk
          go_wp2_with (fail)
          go_loopw [8, 14, 15, 16] (fun vm vj _ _ wr => ∃ (j : Nat), j ≤ m ∧ vm = .int .i64 ((M + j : Nat) : Int) ∧ vj = .int .i64 (j : Int) ∧ Hid (Grows w3 wr)) (fun _ vj _ _ _ => m - (intOf vj).toNat)
          case atStart => exact ⟨0, Nat.zero_le _, rfl, rfl, HG⟩
          case round =>
            clear HG
            obtain ⟨j, hj, rfl, rfl, HG⟩ := hrel
            have hcw := HC.out.2.2 wr (Grows.trans HGW.out HG.out)
            obtain ⟨M2, hM2⟩ : ∃ k, M + j = k := ⟨_, rfl⟩
            have HM2 := Lib.hid hM2
            rw [hM2]
            by_cases hltj : j < m
            · obtain ⟨bd, ⟨x0, x1, x2, x3⟩, e2, hxj, _, hxc⟩ := HC.out.1.at hltj
              subst e2
              dsimp only at hxc
              have HXJ := Lib.hid hxj
              have HXC0 := Lib.hid hxc
              have hj2 : (0 : Int) ≤ (j : Int) := by omega
              have hj3 : (j : Int) < (m : Int) := by omega
              have hM3 : M2 + 1 ≤ 9000 := by omega
              clear hxj hxc hM2
              go_wp2_with (fail)
              go_loopw [15, 16] (fun vt vi wr => ∃ (t : Bool) (i : Nat), i ≤ n1 ∧ vt = .bool t ∧ vi = .int .i64 (i : Int) ∧ Hid (t = false → ∀ (i' : Nat) (p : Nat × Ht), i' < i → T[i']? = some p → p.2.key ≠ x1) ∧ Hid (Grows w3 wr)) (fun _ vi _ => n1 - (intOf vi).toNat)
              case atStart => exact ⟨false, 0, Nat.zero_le _, rfl, rfl, Lib.hid (fun _ i' p h => by omega), HG⟩
              case round =>
                clear HG
                clear hcw
                obtain ⟨t, i, hi, rfl, rfl, HTT, HG⟩ := hrel
                by_cases hlti : i < n1
                · cases t
                  · obtain ⟨ad, ⟨sv, ⟨q0, q1, q2, q3⟩⟩, ea, hp, _, hc⟩ := H3.out.1.at hlti
                    subst ea
                    dsimp only at hc
                    have HLI := Lib.hid (fun w' (hg : Grows wr w') => hc w' (Grows.trans HG.out hg))
                    have HSL := Lib.hid (fun w' (hg : Grows wr w') => HC.out.2.2 w' (Grows.trans HGW.out (Grows.trans HG.out hg)))
                    have HXC := Lib.hid (fun w' (hg : Grows wr w') => HXC0.out w' (Grows.trans HGW.out (Grows.trans HG.out hg)))
                    have hi1 : (0 : Int) ≤ (i : Int) := by omega
                    have hi2 : (i : Int) < (n1 : Int) := by omega
                    have HI := Lib.hid (And.intro hi1 (And.intro hi2 (And.intro hk1 (And.intro hk2 (And.intro hj2 hj3)))))
                    have HTI := Lib.hid (show ∀ p, T[i]? = some p → p.2.key = q1 from fun p ht => by
                      rw [HTL.out.1, List.getElem?_map, ht] at hp
                      injection hp with hp
                      have h2 := congrArg (fun p : Fp => p.2.key) hp
                      simpa [segF] using h2)
                    clear hp hc
                    rcases heq : (q1 == x1) with _ | _
                    · have HEQ := Lib.hid heq
                      clear heq
                      go_wp2_with (fail)
                      refine wp_region_facts (E := Grows) [valFact (.bool false), valFact (.bool false), valFact (.slice (some ad) n1 c1), valFact (.int .i64 (i : Int)), valFact (.pointer (some (ad.add (i * 5)))), valFact (.pointer (some { block := (ad.add (i * 5)).block, off := (ad.add (i * 5)).off + 1 })), valFact (.pointer (some { block := (ad.add (i * 5)).block, off := (ad.add (i * 5)).off + 2 })), valFact (.string ⟨q1.toArray⟩), valFact (.slice (some la) N c), valFact (.int .i64 (k : Int)), valFact (.pointer (some (la.add k))), valFact (.slice (some bd) m q), valFact (.int .i64 (j : Int)), valFact (.pointer (some (bd.add (j * 4)))), valFact (.pointer (some { block := (bd.add (j * 4)).block, off := (bd.add (j * 4)).off + 1 })), valFact (.string ⟨x1.toArray⟩), valFact (.bool false), valFact (.bool false), valFact (.bool false)] (by kernel_rfl) (by kernel_rfl) (fun _ _ _ => Grows.trans) (grows_drew _) ?_
                      refine f_val (.bool false) (by rfl) ?_ ?_
                      · intro w' hC; clear hC; go_simp
                      simp only [Act.put, List.setIfInBounds_toArray, List.set_cons_zero, List.set_cons_succ]
                      refine f_val (.bool false) (by rfl) ?_ ?_
                      · intro w' hC; clear hC; go_simp
                      simp only [Act.put, List.setIfInBounds_toArray, List.set_cons_zero, List.set_cons_succ]
                      refine f_val (.slice (some ad) n1 c1) (by rfl) ?_ ?_
                      · intro w' hC; clear hC; go_simp
                      simp only [Act.put, List.setIfInBounds_toArray, List.set_cons_zero, List.set_cons_succ]
                      refine f_val (.int .i64 (i : Int)) (by rfl) ?_ ?_
                      · intro w' hC; clear hC; go_simp
                      simp only [Act.put, List.setIfInBounds_toArray, List.set_cons_zero, List.set_cons_succ]
                      refine f_val (.pointer (some (ad.add (i * 5)))) (by rfl) ?_ ?_
                      · intro w' hC; have k0 := HI.out; clear hC; go_simp
                      simp only [Act.put, List.setIfInBounds_toArray, List.set_cons_zero, List.set_cons_succ]
                      refine f_val (.pointer (some { block := (ad.add (i * 5)).block, off := (ad.add (i * 5)).off + 1 })) (by rfl) ?_ ?_
                      · intro w' hC; clear hC; go_simp
                      simp only [Act.put, List.setIfInBounds_toArray, List.set_cons_zero, List.set_cons_succ]
                      refine f_val (.pointer (some { block := (ad.add (i * 5)).block, off := (ad.add (i * 5)).off + 2 })) (by rfl) ?_ ?_
                      · intro w' hC; clear hC; go_simp
                      simp only [Act.put, List.setIfInBounds_toArray, List.set_cons_zero, List.set_cons_succ]
                      refine f_val (.string ⟨q1.toArray⟩) (by rfl) ?_ ?_
                      · intro w' hC; obtain ⟨z0, z1, z2, z3, z4⟩ := HLI.out w' hC; clear hC; go_simp
                      simp only [Act.put, List.setIfInBounds_toArray, List.set_cons_zero, List.set_cons_succ]
                      refine f_val (.slice (some la) N c) (by rfl) ?_ ?_
                      · intro w' hC; clear hC; go_simp
                      simp only [Act.put, List.setIfInBounds_toArray, List.set_cons_zero, List.set_cons_succ]
                      refine f_val (.int .i64 (k : Int)) (by rfl) ?_ ?_
                      · intro w' hC; clear hC; go_simp
                      simp only [Act.put, List.setIfInBounds_toArray, List.set_cons_zero, List.set_cons_succ]
                      refine f_val (.pointer (some (la.add k))) (by rfl) ?_ ?_
                      · intro w' hC; have k0 := HI.out; clear hC; go_simp
                      simp only [Act.put, List.setIfInBounds_toArray, List.set_cons_zero, List.set_cons_succ]
                      refine f_val (.slice (some bd) m q) (by rfl) ?_ ?_
                      · intro w' hC; have z := HSL.out w' hC; clear hC; go_simp
                      simp only [Act.put, List.setIfInBounds_toArray, List.set_cons_zero, List.set_cons_succ]
                      refine f_val (.int .i64 (j : Int)) (by rfl) ?_ ?_
                      · intro w' hC; clear hC; go_simp
                      simp only [Act.put, List.setIfInBounds_toArray, List.set_cons_zero, List.set_cons_succ]
                      refine f_val (.pointer (some (bd.add (j * 4)))) (by rfl) ?_ ?_
                      · intro w' hC; have k0 := HI.out; clear hC; go_simp
                      simp only [Act.put, List.setIfInBounds_toArray, List.set_cons_zero, List.set_cons_succ]
                      refine f_val (.pointer (some { block := (bd.add (j * 4)).block, off := (bd.add (j * 4)).off + 1 })) (by rfl) ?_ ?_
                      · intro w' hC; clear hC; go_simp
                      simp only [Act.put, List.setIfInBounds_toArray, List.set_cons_zero, List.set_cons_succ]
                      refine f_val (.string ⟨x1.toArray⟩) (by rfl) ?_ ?_
                      · intro w' hC; obtain ⟨z0, z1, z2, z3⟩ := HXC.out w' hC; clear hC; go_simp
                      simp only [Act.put, List.setIfInBounds_toArray, List.set_cons_zero, List.set_cons_succ]
                      refine f_val (.bool false) (by rfl) ?_ ?_
                      · intro w' hC; have k0 := HEQ.out; clear hC; go_simp
                      simp only [Act.put, List.setIfInBounds_toArray, List.set_cons_zero, List.set_cons_succ]
                      refine f_val (.bool false) (by rfl) ?_ ?_
                      · intro w' hC; clear hC; go_simp
                      simp only [Act.put, List.setIfInBounds_toArray, List.set_cons_zero, List.set_cons_succ]
                      refine f_val (.bool false) (by rfl) ?_ ?_
                      · intro w' hC; clear hC; go_simp
                      simp only [Act.put, List.setIfInBounds_toArray, List.set_cons_zero, List.set_cons_succ]
                      refine wpF_end ?_
                      intro w5 hC hks
                      have HCw5 := Lib.hid hC
                      clear hC hks
                      go_wp2_with (fail)
                      go_roundw
                      case rel => exact ⟨false, i + 1, by omega, rfl, by first | rfl | go_num, Lib.hid (fun _ i' p hi' ht => by
                        by_cases e : i' = i
                        · subst e
                          rw [HTI.out p ht]
                          have := HEQ.out
                          simpa using this
                        · exact HTT.out (by first | rfl | trivial) i' p (by omega) ht), Lib.hid (Grows.trans HG.out HCw5.out)⟩
                      case measure => simp [intOf]; omega
                    · have HEQ := Lib.hid heq
                      clear heq
                      go_wp2_with (fail)
                      refine wp_region_facts (E := Grows) [valFact (.bool false), valFact (.bool false), valFact (.slice (some ad) n1 c1), valFact (.int .i64 (i : Int)), valFact (.pointer (some (ad.add (i * 5)))), valFact (.pointer (some { block := (ad.add (i * 5)).block, off := (ad.add (i * 5)).off + 1 })), valFact (.pointer (some { block := (ad.add (i * 5)).block, off := (ad.add (i * 5)).off + 2 })), valFact (.string ⟨q1.toArray⟩), valFact (.slice (some la) N c), valFact (.int .i64 (k : Int)), valFact (.pointer (some (la.add k))), valFact (.slice (some bd) m q), valFact (.int .i64 (j : Int)), valFact (.pointer (some (bd.add (j * 4)))), valFact (.pointer (some { block := (bd.add (j * 4)).block, off := (bd.add (j * 4)).off + 1 })), valFact (.string ⟨x1.toArray⟩), valFact (.bool true), valFact (.bool true), valFact (.bool true)] (by kernel_rfl) (by kernel_rfl) (fun _ _ _ => Grows.trans) (grows_drew _) ?_
                      refine f_val (.bool false) (by rfl) ?_ ?_
                      · intro w' hC; clear hC; go_simp
                      simp only [Act.put, List.setIfInBounds_toArray, List.set_cons_zero, List.set_cons_succ]
                      refine f_val (.bool false) (by rfl) ?_ ?_
                      · intro w' hC; clear hC; go_simp
                      simp only [Act.put, List.setIfInBounds_toArray, List.set_cons_zero, List.set_cons_succ]
                      refine f_val (.slice (some ad) n1 c1) (by rfl) ?_ ?_
                      · intro w' hC; clear hC; go_simp
                      simp only [Act.put, List.setIfInBounds_toArray, List.set_cons_zero, List.set_cons_succ]
                      refine f_val (.int .i64 (i : Int)) (by rfl) ?_ ?_
                      · intro w' hC; clear hC; go_simp
                      simp only [Act.put, List.setIfInBounds_toArray, List.set_cons_zero, List.set_cons_succ]
                      refine f_val (.pointer (some (ad.add (i * 5)))) (by rfl) ?_ ?_
                      · intro w' hC; have k0 := HI.out; clear hC; go_simp
                      simp only [Act.put, List.setIfInBounds_toArray, List.set_cons_zero, List.set_cons_succ]
                      refine f_val (.pointer (some { block := (ad.add (i * 5)).block, off := (ad.add (i * 5)).off + 1 })) (by rfl) ?_ ?_
                      · intro w' hC; clear hC; go_simp
                      simp only [Act.put, List.setIfInBounds_toArray, List.set_cons_zero, List.set_cons_succ]
                      refine f_val (.pointer (some { block := (ad.add (i * 5)).block, off := (ad.add (i * 5)).off + 2 })) (by rfl) ?_ ?_
                      · intro w' hC; clear hC; go_simp
                      simp only [Act.put, List.setIfInBounds_toArray, List.set_cons_zero, List.set_cons_succ]
                      refine f_val (.string ⟨q1.toArray⟩) (by rfl) ?_ ?_
                      · intro w' hC; obtain ⟨z0, z1, z2, z3, z4⟩ := HLI.out w' hC; clear hC; go_simp
                      simp only [Act.put, List.setIfInBounds_toArray, List.set_cons_zero, List.set_cons_succ]
                      refine f_val (.slice (some la) N c) (by rfl) ?_ ?_
                      · intro w' hC; clear hC; go_simp
                      simp only [Act.put, List.setIfInBounds_toArray, List.set_cons_zero, List.set_cons_succ]
                      refine f_val (.int .i64 (k : Int)) (by rfl) ?_ ?_
                      · intro w' hC; clear hC; go_simp
                      simp only [Act.put, List.setIfInBounds_toArray, List.set_cons_zero, List.set_cons_succ]
                      refine f_val (.pointer (some (la.add k))) (by rfl) ?_ ?_
                      · intro w' hC; have k0 := HI.out; clear hC; go_simp
                      simp only [Act.put, List.setIfInBounds_toArray, List.set_cons_zero, List.set_cons_succ]
                      refine f_val (.slice (some bd) m q) (by rfl) ?_ ?_
                      · intro w' hC; have z := HSL.out w' hC; clear hC; go_simp
                      simp only [Act.put, List.setIfInBounds_toArray, List.set_cons_zero, List.set_cons_succ]
                      refine f_val (.int .i64 (j : Int)) (by rfl) ?_ ?_
                      · intro w' hC; clear hC; go_simp
                      simp only [Act.put, List.setIfInBounds_toArray, List.set_cons_zero, List.set_cons_succ]
                      refine f_val (.pointer (some (bd.add (j * 4)))) (by rfl) ?_ ?_
                      · intro w' hC; have k0 := HI.out; clear hC; go_simp
                      simp only [Act.put, List.setIfInBounds_toArray, List.set_cons_zero, List.set_cons_succ]
                      refine f_val (.pointer (some { block := (bd.add (j * 4)).block, off := (bd.add (j * 4)).off + 1 })) (by rfl) ?_ ?_
                      · intro w' hC; clear hC; go_simp
                      simp only [Act.put, List.setIfInBounds_toArray, List.set_cons_zero, List.set_cons_succ]
                      refine f_val (.string ⟨x1.toArray⟩) (by rfl) ?_ ?_
                      · intro w' hC; obtain ⟨z0, z1, z2, z3⟩ := HXC.out w' hC; clear hC; go_simp
                      simp only [Act.put, List.setIfInBounds_toArray, List.set_cons_zero, List.set_cons_succ]
                      refine f_val (.bool true) (by rfl) ?_ ?_
                      · intro w' hC; have k0 := HEQ.out; clear hC; go_simp
                      simp only [Act.put, List.setIfInBounds_toArray, List.set_cons_zero, List.set_cons_succ]
                      refine f_val (.bool true) (by rfl) ?_ ?_
                      · intro w' hC; clear hC; go_simp
                      simp only [Act.put, List.setIfInBounds_toArray, List.set_cons_zero, List.set_cons_succ]
                      refine f_val (.bool true) (by rfl) ?_ ?_
                      · intro w' hC; clear hC; go_simp
                      simp only [Act.put, List.setIfInBounds_toArray, List.set_cons_zero, List.set_cons_succ]
                      refine wpF_end ?_
                      intro w5 hC hks
                      have HCw5 := Lib.hid hC
                      clear hC hks
                      go_wp2_with (fail)
                      go_roundw
                      case rel => exact ⟨true, i + 1, by omega, rfl, by first | rfl | go_num, Lib.hid (fun h => by cases h), Lib.hid (Grows.trans HG.out HCw5.out)⟩
                      case measure => simp [intOf]; omega
                  · go_wp2_with (fail)
                    refine wp_region_facts (E := Grows) [valFact (.bool true), valFact (.bool true), valFact undef, valFact undef, valFact undef, valFact undef, valFact undef, valFact undef, valFact undef, valFact undef, valFact undef, valFact undef, valFact undef, valFact undef, valFact undef, valFact undef, valFact undef, valFact (.bool true), valFact (.bool true)] (by kernel_rfl) (by kernel_rfl) (fun _ _ _ => Grows.trans) (grows_drew _) ?_
                    refine f_val (.bool true) (by rfl) ?_ ?_
                    · intro w' hC; clear hC; go_simp
                    simp only [Act.put, List.setIfInBounds_toArray, List.set_cons_zero, List.set_cons_succ]
                    refine f_val (.bool true) (by rfl) ?_ ?_
                    · intro w' hC; clear hC; go_simp
                    simp only [Act.put, List.setIfInBounds_toArray, List.set_cons_zero, List.set_cons_succ]
                    refine f_skip (by rfl) ?_
                    simp only [Act.put, List.setIfInBounds_toArray, List.set_cons_zero, List.set_cons_succ]
                    refine f_skip (by rfl) ?_
                    simp only [Act.put, List.setIfInBounds_toArray, List.set_cons_zero, List.set_cons_succ]
                    refine f_skip (by rfl) ?_
                    simp only [Act.put, List.setIfInBounds_toArray, List.set_cons_zero, List.set_cons_succ]
                    refine f_skip (by rfl) ?_
                    simp only [Act.put, List.setIfInBounds_toArray, List.set_cons_zero, List.set_cons_succ]
                    refine f_skip (by rfl) ?_
                    simp only [Act.put, List.setIfInBounds_toArray, List.set_cons_zero, List.set_cons_succ]
                    refine f_skip (by rfl) ?_
                    simp only [Act.put, List.setIfInBounds_toArray, List.set_cons_zero, List.set_cons_succ]
                    refine f_skip (by rfl) ?_
                    simp only [Act.put, List.setIfInBounds_toArray, List.set_cons_zero, List.set_cons_succ]
                    refine f_skip (by rfl) ?_
                    simp only [Act.put, List.setIfInBounds_toArray, List.set_cons_zero, List.set_cons_succ]
                    refine f_skip (by rfl) ?_
                    simp only [Act.put, List.setIfInBounds_toArray, List.set_cons_zero, List.set_cons_succ]
                    refine f_skip (by rfl) ?_
                    simp only [Act.put, List.setIfInBounds_toArray, List.set_cons_zero, List.set_cons_succ]
                    refine f_skip (by rfl) ?_
                    simp only [Act.put, List.setIfInBounds_toArray, List.set_cons_zero, List.set_cons_succ]
                    refine f_skip (by rfl) ?_
                    simp only [Act.put, List.setIfInBounds_toArray, List.set_cons_zero, List.set_cons_succ]
                    refine f_skip (by rfl) ?_
                    simp only [Act.put, List.setIfInBounds_toArray, List.set_cons_zero, List.set_cons_succ]
                    refine f_skip (by rfl) ?_
                    simp only [Act.put, List.setIfInBounds_toArray, List.set_cons_zero, List.set_cons_succ]
                    refine f_skip (by rfl) ?_
                    simp only [Act.put, List.setIfInBounds_toArray, List.set_cons_zero, List.set_cons_succ]
                    refine f_val (.bool true) (by rfl) ?_ ?_
                    · intro w' hC; clear hC; go_simp
                    simp only [Act.put, List.setIfInBounds_toArray, List.set_cons_zero, List.set_cons_succ]
                    refine f_val (.bool true) (by rfl) ?_ ?_
                    · intro w' hC; clear hC; go_simp
                    simp only [Act.put, List.setIfInBounds_toArray, List.set_cons_zero, List.set_cons_succ]
                    refine wpF_end ?_
                    intro w5 hC hks
                    have HCw5 := Lib.hid hC
                    clear hC hks
                    go_wp2_with (fail)
                    go_roundw
                    case rel => exact ⟨true, i + 1, by omega, rfl, by first | rfl | go_num, Lib.hid (fun h => by cases h), Lib.hid (Grows.trans HG.out HCw5.out)⟩
                    case measure => simp [intOf]; omega
                · obtain rfl : t = true := by
                    cases t
                    · exfalso
                      obtain ⟨p, hp, he⟩ := HFO.out.told (N := N) (fun j g ⟨l, hl, _⟩ => by
                        have := (List.getElem?_eq_some_iff.1 hl).1
                        have := HX.out.2.1.len
                        omega) N k ⟨x0, x1, x2, x3⟩ (by omega) ⟨li, HC.out.2.1, List.mem_of_getElem? HXJ.out⟩
                      obtain ⟨i', hi', rfl⟩ := List.mem_iff_getElem.1 hp
                      have h1 := H3.out.2.1
                      rw [HTL.out.1, List.length_map] at h1
                      exact HTT.out (by first | rfl | trivial) i' _ (by omega) (List.getElem?_eq_getElem hi') he
                    · rfl
                  go_wp2_with (fail)
                  go_roundw
                  case rel => exact ⟨j + 1, by omega, by have := HM2.out; rw [show M + (j + 1) = M2 + 1 by omega]; first | rfl | go_num, by first | rfl | go_num, HG⟩
                  case measure => simp [intOf]; omega
            · have HMK := Lib.hid (show M2 = manyL (ls.take (k + 1)) from by
                rw [manyL_take HC.out.2.1]
                have := HC.out.1.len
                have := HM.out
                omega)
              have hM4 : M2 ≤ 9000 := by omega
              clear hM2
              go_wp2_with (fail)
              go_roundw
              case rel => exact ⟨M2, k + 1, by omega, hM4, rfl, by first | rfl | go_num, HMK, HG⟩
              case measure => simp [intOf]; omega
        · have hle : n1 ≤ M := by
            have h1 := H3.out.2.1
            have h2 := HTL.out
            rw [h2.1, List.length_map] at h1
            have h3 := HM.out
            rw [List.take_of_length_le (by have := HX.out.2.1.len; omega)] at h3
            omega
          have hle2 : (n1 : Int) ≤ (M : Int) := by omega
          go_wp2_with (fail)
          go_ret
          exact ⟨rfl, Grows.trans HGW.out HG.out⟩

set_option maxRecDepth 100000 in
theorem foldLast_lifted (os : Os) (started : os.Started) (H : Type) (enc : TypeId × Value → H) :
    ReturnsInHanded {} Try.checked os 4 .any (Rows.foldLastSpec.pre6 enc Try.prog Try.f4 Rows.foldLastRow.domain false) (Rows.foldLastSpec.post enc Try.prog Try.f4 false true false false) := by
  refine lift_law (C := Try.checked) H enc own started (by kernel_rfl) Try.func4
    (ChangeSpec.witness6 (enc := enc) (C := Try.checked) false ⟨#[], #[.slice none 0 0, .slice none 0 0], []⟩ 16 (by kernel_rfl) (by kernel_rfl) (by kernel_rfl) (by kernel_rfl))
    laidOut (of_readable (by kernel_rfl)) rfl Try.underlying4 rfl (fun ds hd => ?_) (fun W base args ds p hval hA hsz => ?_)
  · match ds, hd with
    | [d1, d2], _ => rfl
  · rw [Try.params4] at hA hval hsz
    obtain ⟨v0, vs0, d0, ds0, p0, q0, hargs, rfl, rfl, h0, r0⟩ := trodAll_cons hA
    obtain ⟨v1, vs1, d1, ds1, p1, q1, rfl, rfl, rfl, h1, r1⟩ := trodAll_cons r0
    obtain ⟨rfl, rfl, rfl⟩ := trodAll_nil r1
    obtain rfl : args = #[v0, v1] := by cases args; simp_all
    obtain ⟨A0, n0, c0, xs0, rfl, hx0⟩ := open_insF (hval 0 22 v0 rfl rfl) h0
    obtain ⟨A1, n1, c1, sl1, xs1, rfl, hx1, hb1, hc1⟩ := open_llsF (hval 1 23 v1 rfl rfl) h1 hsz (j := 1) rfl rfl
    exact foldLast_law W A0 n0 c0 xs0 hx0 A1 n1 c1 sl1 xs1 hx1 hb1 hc1

theorem foldLast_over : Rows.foldLastRow.holds Try.pinned (OpenSpec.ofChange Rows.foldLastSpec) :=
  OpenClaim.holds_of_wide 4 Try.f4 rfl rfl rfl rfl rfl rfl rfl ⟨rfl, rfl, rfl, rfl, rfl⟩ rfl rfl rfl rfl rfl (by kernel_rfl) Try.func4 (by kernel_rfl)
    (of_decide_eq_true (by kernel_rfl)) (by unfold Func.isWrapper; first | (rw [if_pos (by decide +kernel)]; kernel_rfl) | (rw [if_neg (by decide +kernel)]; exact ⟨rfl, rfl⟩))
    (fun os started H enc _ => foldLast_lifted os started H enc)
theorem foldLast_holds : Rows.FoldLastSaid := foldLast_over
end Go.Proofs.Ytnnkioekjobbmaa