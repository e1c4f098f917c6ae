/-
  Statement FoldParts: lists folded in two parts, and both then, are as all folded at once. Every list of lists of hints, and every place where they are parted, no condition.
-/
import Derived.Test.YtnnkioekjobbmaaFdCuts
import Derived.Test.YtnnkioekjobbmaaFdGreat
import Derived.Test.YtnnkioekjobbmaaFdIn
import Derived.ProofKit
import Derived.ChangeOld
namespace Go.Proofs.Ytnnkioekjobbmaa
open Go.ChangeShapes Go.WideShapes Go.ChangeAt Go.RowKit
set_option linter.unusedSimpArgs false
set_option linter.unusedVariables false
attribute [local irreducible] wpF
set_option maxRecDepth 100000 in
set_option maxHeartbeats 8000000 in
theorem foldParts_law (w : World) (A : Option Addr) (N c : Nat) (sl : List Sl3) (ls : List (List Ht)) (hx : Lls w A N c sl ls) (hN : N ≤ 6000000000000) (hm : ∀ l ∈ ls, l.length ≤ 4000000000000) (s : Int) (hs : 0 ≤ s ∧ s < 256) :
    Calls Try.prog 5 #[.slice A N c, .int .u8 s] w fun e w' => e = .returned (.bool true) ∧ Below w.heap.size w w' := by
  obtain ⟨S, rfl⟩ := Int.eq_ofNat_of_zero_le hs.1
  have HX := Lib.hid (And.intro hx (And.intro hN hm))
  have HSS := Lib.hid (show S < 256 from by omega)
  clear hx hN hm hs
  go_enter Try.func5, Try.ntmps5
  go_wp2_with (fail)
  refine (head14_any w).mono ?_
  rintro e w1 ⟨rfl, hg1⟩
  have HG1 := Lib.hid hg1
  have HGT := Lib.hid (great_any A N c sl ls w1 (HX.out.1.grow hg1) HX.out.2.1 HX.out.2.2)
  clear hg1
  go_wp2_with (fail)
  refine HGT.out.mono ?_
  rintro e w2 ⟨g, rfl, hsm, hg2⟩
  have HG2 := Lib.hid (Grows.trans HG1.out hg2)
  clear hg2 HGT
  cases g
  rotate_left
  · clear hsm
    go_wp2_with (fail)
    go_ret
    exact ⟨rfl, HG2.out⟩
  obtain ⟨hN1, hM1⟩ := hsm rfl
  have HB := Lib.hid (And.intro hN1 hM1)
  clear hsm hM1
  go_wp2_with (fail)
  go_loopw [6, 7] (fun vs vi wr => ∃ (i : Nat) (AS : Option Addr) (cs : Nat), i ≤ N ∧ vi = .int .i64 (i : Int) ∧ vs = .slice AS i cs ∧ Hid (OwnIn wr w.heap.size AS i cs (numsL i) ∧ Grows w wr)) (fun _ vi _ => N - (intOf vi).toNat)
  case atStart => exact ⟨0, none, 0, Nat.zero_le _, rfl, rfl, Lib.hid ⟨World.ownsRow_nil _ _ _ _, HG2.out⟩⟩
  case round =>
    obtain ⟨i, AS, cs, hi, rfl, rfl, HT⟩ := hrel
    by_cases hlt : i < N
    · have hg1 := grows_alloc wr (.cells #[.int .i64 (i : Int)] 3)
      have hm1 := Whole.made wr 3 #[.int .i64 (i : Int)]
      obtain ⟨V1, hV1⟩ : ∃ V, wr.alloc (.cells #[.int .i64 (i : Int)] 3) = V := ⟨_, rfl⟩
      rw [hV1] at hg1 hm1
      obtain ⟨b1, hb1⟩ : ∃ b, wr.heap.size = b := ⟨_, rfl⟩
      rw [hb1] at hm1
      have hOW := owned_grow HT.out.1 hg1
      obtain ⟨A', c', V2, hrun, hown, hgb⟩ := app_in (ty := 22) hOW (i : Int) hm1 (by omega) (Nat.le_trans HT.out.2.size hg1.size)
      have HRUN := Lib.hid hrun
      have HN := Lib.hid (And.intro hown (ownP_grows (Grows.trans HT.out.2 hg1) (Nat.le_refl _) hOW hgb))
      have k1 : (i : Int) < (N : Int) := by omega
      clear hg1 hm1 hrun hown hgb hOW
      go_wp2_with (first
        | rw [hV1]
        | (at_builtin; refine list_execF rfl (exec_appF rfl rfl rfl HRUN.out) ?_; simp only [Act.put, List.setIfInBounds_toArray, List.set_cons_zero, List.set_cons_succ])
        | fail)
      go_roundw
      case rel => exact ⟨i + 1, A', c', by omega, by first | rfl | go_num, rfl, Lib.hid ⟨by rw [numsL_succ]; exact HN.out.1, HN.out.2⟩⟩
      case measure => simp [intOf]; omega
    · obtain rfl : N = i := by omega
      have hS := HSS.out
      obtain ⟨N1, hN1e⟩ : ∃ k, N + 1 = k := ⟨_, rfl⟩
      obtain ⟨k, hk⟩ : ∃ k, S % N1 = k := ⟨_, rfl⟩
      have hkN : k ≤ N := by
        have := Nat.mod_lt S (show 0 < N1 by omega)
        omega
      have hmod : (S : Int).tmod (N1 : Int) = (k : Int) := tmod_natF _ _ _ hk
      have e1 : (N : Int) + 1 = (N1 : Int) := by omega
      have e2 : ¬ (N1 : Int) = 0 := by omega
      have e3 : ¬ N1 = 0 := by omega
      obtain ⟨b1, b2⟩ := wrapI (x := (N1 : Int)) (by omega) (by omega)
      obtain ⟨b3, b4⟩ := wrapI (x := (S : Int)) (by omega) (by omega)
      obtain ⟨b5, b6⟩ := wrapI (x := (k : Int)) (by omega) (by omega)
      have HKN := Lib.hid hkN
      have hseg : (numsL N).length = ls.length := by rw [numsL_len, HX.out.1.len]
      obtain ⟨r1, hr1⟩ : ∃ r, okFold (numsL N) ls = r := ⟨_, rfl⟩
      obtain ⟨L1, hL1⟩ : ∃ L, foldAll (numsL N) ls = L := ⟨_, rfl⟩
      have HF := Lib.hid (fold_any AS N cs (numsL N) A N c sl ls wr HT.out.1.ins (HX.out.1.grow HT.out.2) (by have := HB.out; omega) (by have := HB.out; omega))
      rw [hr1, hL1] at HF
      have HRL := Lib.hid (And.intro hr1 (And.intro hL1 hseg))
      clear hr1 hL1 hseg hk hN1e hlt hi hS
      go_wp2_with (fail)
      refine HF.out.mono ?_
      rintro e w3 ⟨A1, n1, c1, rfl, o1, g3⟩
      clear hmod e1 e2 e3 b1 b2 b3 b4 b5 b6
      have HW3 := Lib.hid (show Grows w w3 from Grows.trans HT.out.2 g3)
      have hIN := HT.out.1.ins.grow g3
      have hLL := HX.out.1.grow HW3.out
      obtain ⟨hs1, A5, c5, hs3, hi5⟩ := cut_ins hIN hkN (by omega)
      obtain ⟨hs2, hf2, A6, c6, hs4, hi6⟩ := cut_lls hLL hkN (by omega)
      obtain ⟨m, hm⟩ : ∃ m, N - k = m := ⟨_, rfl⟩
      rw [hm] at hs3 hs4 hi5 hi6
      have HS1 := Lib.hid hs1
      have HS2 := Lib.hid hs2
      have HS3 := Lib.hid hs3
      have HS4 := Lib.hid hs4
      have H3 := Lib.hid (And.intro o1.rs (And.intro o1.len (And.intro (hIN.first1 inL hkN) (And.intro hf2 (And.intro hi5 hi6)))))
      have HMK := Lib.hid hm
      have hmt : manyL (ls.take k) ≤ manyL ls := manyL_le ls k
      have hmd : manyL (ls.drop k) ≤ manyL ls := by
        unfold manyL
        have h1 : (ls.map List.length).sum = ((ls.take k).map List.length).sum + ((ls.drop k).map List.length).sum := by rw [← List.sum_append, ← List.map_append, List.take_append_drop]
        omega
      have HMM := Lib.hid (And.intro hmt hmd)
      obtain ⟨r2, hr2⟩ : ∃ r, okFold ((numsL N).take k) (ls.take k) = r := ⟨_, rfl⟩
      obtain ⟨L2, hL2⟩ : ∃ L, foldAll ((numsL N).take k) (ls.take k) = L := ⟨_, rfl⟩
      obtain ⟨n2, hn2⟩ : ∃ k, L2.length = k := ⟨_, rfl⟩
      obtain ⟨r3, hr3⟩ : ∃ r, okFold ((numsL N).drop k) (ls.drop k) = r := ⟨_, rfl⟩
      obtain ⟨L3, hL3⟩ : ∃ L, foldAll ((numsL N).drop k) (ls.drop k) = L := ⟨_, rfl⟩
      obtain ⟨n3, hn3⟩ : ∃ k, L3.length = k := ⟨_, rfl⟩
      have HCA2 := Lib.hid (show ∀ w', Grows w3 w' → Calls Try.prog 10 #[.slice AS k cs, .slice A k c] w' fun e w'' => Grows w' w'' ∧ ∃ x : Option Addr × Nat, e = .returned (.tuple #[.slice x.1 n2 x.2, .bool r2]) ∧ OwnPl w'' w.heap.size x.1 n2 x.2 L2 from fun w' hg => by
        have h1 := fold_any AS k cs ((numsL N).take k) A k c (sl.take k) (ls.take k) w' (H3.out.2.2.1.grow hg) (H3.out.2.2.2.1.grow hg) (by have := HB.out; have := HKN.out; omega) (by have := HB.out; have := HMM.out; omega)
        rw [hr2, hL2] at h1
        exact h1.mono fun e w'' ⟨A9, n9, c9, h2, h3, h4⟩ => by
          have hl := h3.len
          rw [hn2] at hl
          subst hl
          exact ⟨h4, (A9, c9), h2, owned_from h3 (Grows.trans HW3.out hg).size⟩)
      have HCA3 := Lib.hid (show ∀ w', Grows w3 w' → Calls Try.prog 10 #[.slice A5 m c5, .slice A6 m c6] w' fun e w'' => Grows w' w'' ∧ ∃ x : Option Addr × Nat, e = .returned (.tuple #[.slice x.1 n3 x.2, .bool r3]) ∧ OwnPl w'' w.heap.size x.1 n3 x.2 L3 from fun w' hg => by
        have h1 := fold_any A5 m c5 ((numsL N).drop k) A6 m c6 (sl.drop k) (ls.drop k) w' (H3.out.2.2.2.2.1.grow hg) (H3.out.2.2.2.2.2.grow hg) (by have := HB.out; have := HMK.out; omega) (by have := HB.out; have := HMM.out; omega)
        rw [hr3, hL3] at h1
        exact h1.mono fun e w'' ⟨A9, n9, c9, h2, h3, h4⟩ => by
          have hl := h3.len
          rw [hn3] at hl
          subst hl
          exact ⟨h4, (A9, c9), h2, owned_from h3 (Grows.trans HW3.out hg).size⟩)
      have HR23 := Lib.hid (And.intro hr2 (And.intro hL2 (And.intro hn2 (And.intro hr3 (And.intro hL3 hn3)))))
      have HRR := Lib.hid (show r1 = (r2 && r3) from by
        have h1 := HRL.out
        rw [okFold_is h1.2.2] at h1
        have hl2 : ((numsL N).take k).length = (ls.take k).length := by rw [List.length_take, List.length_take, h1.2.2]
        have hl3 : ((numsL N).drop k).length = (ls.drop k).length := by rw [List.length_drop, List.length_drop, h1.2.2]
        rw [okFold_is hl2] at hr2
        rw [okFold_is hl3] at hr3
        rw [← h1.1, ← hr2, ← hr3, ← List.all_append, List.take_append_drop])
      clear o1 g3 hIN hLL hs1 hi5 hs2 hf2 hs3 hs4 hi6 hm hmt hmd hr2 hL2 hn2 hr3 hL3 hn3 HF hkN
      go_wp2_with (fail)
      refine wp_region_facts (E := Grows) [valFact (.slice AS N cs), valFact (.int .i64 (k : Int)), valFact (.slice AS k cs), valFact (.slice A N c), valFact (.int .i64 (k : Int)), valFact (.slice A k c), rowT w.heap.size n2 r2 L2, rowT w.heap.size n2 r2 L2, rowO w.heap.size n2 L2, valFact (.bool r2), rowO w.heap.size n2 L2, valFact (.bool r2)] (by kernel_rfl) (by kernel_rfl) (fun _ _ _ => Grows.trans) (grows_drew _) ?_
      refine f_val (.slice AS N cs) (by rfl) ?_ ?_
      · intro w' hC; clear hC; go_simp
      simp only [Act.put, List.setIfInBounds_toArray, List.set_cons_zero, List.set_cons_succ]
      refine f_val (.int .i64 (k : Int)) (by rfl) ?_ ?_
      · intro w' hC; clear hC; go_simp
      simp only [Act.put, List.setIfInBounds_toArray, List.set_cons_zero, List.set_cons_succ]
      refine f_val (.slice AS k cs) (by rfl) ?_ ?_
      · intro w' hC; have z := HS1.out w'; clear hC; go_simp
      simp only [Act.put, List.setIfInBounds_toArray, List.set_cons_zero, List.set_cons_succ]
      refine f_val (.slice A N c) (by rfl) ?_ ?_
      · intro w' hC; clear hC; go_simp
      simp only [Act.put, List.setIfInBounds_toArray, List.set_cons_zero, List.set_cons_succ]
      refine f_val (.int .i64 (k : Int)) (by rfl) ?_ ?_
      · intro w' hC; clear hC; go_simp
      simp only [Act.put, List.setIfInBounds_toArray, List.set_cons_zero, List.set_cons_succ]
      refine f_val (.slice A k c) (by rfl) ?_ ?_
      · intro w' hC; have z := HS2.out w'; clear hC; go_simp
      simp only [Act.put, List.setIfInBounds_toArray, List.set_cons_zero, List.set_cons_succ]
      refine f_callF 10 #[.slice AS k cs, .slice A k c] (by rfl) (by intro w' hC; clear hC; go_simp) ?_ ?_
      · intro w' hC; exact HCA2.out w' hC
      rintro ⟨A2, c2⟩
      dsimp only [rowT]
      simp only [Act.put, List.setIfInBounds_toArray, List.set_cons_zero, List.set_cons_succ]
      refine f_anyF (A2, c2) (by rfl) ?_ ?_
      · intro w' hC hks; refine ⟨?_, Known.get hks 0 rfl rfl⟩; clear hC hks; dsimp only [rowT]; first | (go_simp; done)
      rintro ⟨A2, c2⟩
      dsimp only [rowT]
      simp only [Act.put, List.setIfInBounds_toArray, List.set_cons_zero, List.set_cons_succ]
      refine f_anyF (A2, c2) (by rfl) ?_ ?_
      · intro w' hC hks; refine ⟨?_, Known.get hks 0 rfl rfl⟩; clear hC hks; dsimp only [rowO]; first | (go_simp; done)
      rintro ⟨A2, c2⟩
      dsimp only [rowO]
      simp only [Act.put, List.setIfInBounds_toArray, List.set_cons_zero, List.set_cons_succ]
      refine f_val (.bool r2) (by rfl) ?_ ?_
      · intro w' hC; clear hC; go_simp
      simp only [Act.put, List.setIfInBounds_toArray, List.set_cons_zero, List.set_cons_succ]
      refine f_anyF (A2, c2) (by rfl) ?_ ?_
      · intro w' hC hks; refine ⟨?_, Known.get hks 0 rfl rfl⟩; clear hC hks; dsimp only [rowO]; first | (go_simp; done)
      rintro ⟨A2, c2⟩
      dsimp only [rowO]
      simp only [Act.put, List.setIfInBounds_toArray, List.set_cons_zero, List.set_cons_succ]
      refine f_val (.bool r2) (by rfl) ?_ ?_
      · intro w' hC; clear hC; go_simp
      simp only [Act.put, List.setIfInBounds_toArray, List.set_cons_zero, List.set_cons_succ]
      refine wpF_end ?_
      intro w4 hC hks
      have HCw4 := Lib.hid hC
      have HL4 := Lib.hid (Known.at hks 0 rfl)
      clear hC hks
      have HL4 := Lib.hid (show OwnPl w4 w.heap.size A2 n2 c2 L2 from HL4.out)
      have HCA3 := Lib.hid (fun w' (hg : Grows w4 w') => HCA3.out w' (Grows.trans HCw4.out hg))
      clear HCA2
      go_wp2_with (fail)
      refine wp_region_facts (E := Grows) [valFact (.slice AS N cs), valFact (.int .i64 (k : Int)), valFact (.slice A5 m c5), valFact (.slice A N c), valFact (.int .i64 (k : Int)), valFact (.slice A6 m c6), rowT w.heap.size n3 r3 L3, rowT w.heap.size n3 r3 L3, rowO w.heap.size n3 L3, valFact (.bool r3), rowO w.heap.size n3 L3, valFact (.bool r3)] (by kernel_rfl) (by kernel_rfl) (fun _ _ _ => Grows.trans) (grows_drew _) ?_
      refine f_val (.slice AS N cs) (by rfl) ?_ ?_
      · intro w' hC; clear hC; go_simp
      simp only [Act.put, List.setIfInBounds_toArray, List.set_cons_zero, List.set_cons_succ]
      refine f_val (.int .i64 (k : Int)) (by rfl) ?_ ?_
      · intro w' hC; clear hC; go_simp
      simp only [Act.put, List.setIfInBounds_toArray, List.set_cons_zero, List.set_cons_succ]
      refine f_val (.slice A5 m c5) (by rfl) ?_ ?_
      · intro w' hC; have z := HS3.out w'; clear hC; go_simp
      simp only [Act.put, List.setIfInBounds_toArray, List.set_cons_zero, List.set_cons_succ]
      refine f_val (.slice A N c) (by rfl) ?_ ?_
      · intro w' hC; clear hC; go_simp
      simp only [Act.put, List.setIfInBounds_toArray, List.set_cons_zero, List.set_cons_succ]
      refine f_val (.int .i64 (k : Int)) (by rfl) ?_ ?_
      · intro w' hC; clear hC; go_simp
      simp only [Act.put, List.setIfInBounds_toArray, List.set_cons_zero, List.set_cons_succ]
      refine f_val (.slice A6 m c6) (by rfl) ?_ ?_
      · intro w' hC; have z := HS4.out w'; clear hC; go_simp
      simp only [Act.put, List.setIfInBounds_toArray, List.set_cons_zero, List.set_cons_succ]
      refine f_callF 10 #[.slice A5 m c5, .slice A6 m c6] (by rfl) (by intro w' hC; clear hC; go_simp) ?_ ?_
      · intro w' hC; exact HCA3.out w' hC
      rintro ⟨A3, c3⟩
      dsimp only [rowT]
      simp only [Act.put, List.setIfInBounds_toArray, List.set_cons_zero, List.set_cons_succ]
      refine f_anyF (A3, c3) (by rfl) ?_ ?_
      · intro w' hC hks; refine ⟨?_, Known.get hks 0 rfl rfl⟩; clear hC hks; dsimp only [rowT]; first | (go_simp; done)
      rintro ⟨A3, c3⟩
      dsimp only [rowT]
      simp only [Act.put, List.setIfInBounds_toArray, List.set_cons_zero, List.set_cons_succ]
      refine f_anyF (A3, c3) (by rfl) ?_ ?_
      · intro w' hC hks; refine ⟨?_, Known.get hks 0 rfl rfl⟩; clear hC hks; dsimp only [rowO]; first | (go_simp; done)
      rintro ⟨A3, c3⟩
      dsimp only [rowO]
      simp only [Act.put, List.setIfInBounds_toArray, List.set_cons_zero, List.set_cons_succ]
      refine f_val (.bool r3) (by rfl) ?_ ?_
      · intro w' hC; clear hC; go_simp
      simp only [Act.put, List.setIfInBounds_toArray, List.set_cons_zero, List.set_cons_succ]
      refine f_anyF (A3, c3) (by rfl) ?_ ?_
      · intro w' hC hks; refine ⟨?_, Known.get hks 0 rfl rfl⟩; clear hC hks; dsimp only [rowO]; first | (go_simp; done)
      rintro ⟨A3, c3⟩
      dsimp only [rowO]
      simp only [Act.put, List.setIfInBounds_toArray, List.set_cons_zero, List.set_cons_succ]
      refine f_val (.bool r3) (by rfl) ?_ ?_
      · intro w' hC; clear hC; go_simp
      simp only [Act.put, List.setIfInBounds_toArray, List.set_cons_zero, List.set_cons_succ]
      refine wpF_end ?_
      intro w5 hC hks
      have HCw5 := Lib.hid hC
      have HL5 := Lib.hid (Known.at hks 0 rfl)
      clear hC hks
      have HL5 := Lib.hid (show OwnPl w5 w.heap.size A3 n3 c3 L3 from HL5.out)
      have HW5 := Lib.hid (Grows.trans (Grows.trans HW3.out HCw4.out) HCw5.out)
      clear HCA3
      by_cases hboth : (r2 && r3) = true
      rotate_left
      · obtain rfl : r1 = false := by rw [HRR.out]; simpa using hboth
        clear hboth
        cases r2
        · go_wp2_with (fail)
          go_ret
          exact ⟨rfl, HW5.out⟩
        · cases r3
          · go_wp2_with (fail)
            go_ret
            exact ⟨rfl, HW5.out⟩
          · have hrr := HRR.out
            cases hrr
      obtain rfl : r1 = true := by rw [HRR.out, hboth]
      obtain ⟨rfl, rfl⟩ : r2 = true ∧ r3 = true := by rw [Bool.and_eq_true] at hboth; exact hboth
      clear hboth HRR
      have HALL := Lib.hid (show ls.all upB = true from by have h1 := HRL.out; rw [okFold_is h1.2.2] at h1; exact h1.1)
      obtain ⟨T, hT⟩ : ∃ T, foldP ls = T := ⟨_, rfl⟩
      obtain ⟨ha, hha⟩ : ∃ T, (foldP (ls.take k)).map (fun p => p.2) = T := ⟨_, rfl⟩
      obtain ⟨hb, hhb⟩ : ∃ T, (foldP (ls.drop k)).map (fun p => p.2) = T := ⟨_, rfl⟩
      have HP := Lib.hid (show foldP [ha, hb] = T.map (fun p => (partOf k p, p.2)) ∧ L1 = T.map (segF (numsL N)) ∧ L2.map (fun p : Fp => p.2) = ha ∧ L3.map (fun p : Fp => p.2) = hb ∧ Rising ha ∧ Rising hb ∧ Folds (Has ls) T from by
        have hup := all_up HALL.out
        have h1 := HRL.out
        have h2 := HR23.out
        have hl2 : ((numsL N).take k).length = (ls.take k).length := by rw [List.length_take, List.length_take, h1.2.2]
        have hl3 : ((numsL N).drop k).length = (ls.drop k).length := by rw [List.length_drop, List.length_drop, h1.2.2]
        have hu2 : (ls.take k).all upB = true := by rw [← okFold_is hl2]; exact h2.1
        have hu3 : (ls.drop k).all upB = true := by rw [← okFold_is hl3]; exact h2.2.2.2.1
        refine ⟨?_, ?_, ?_, ?_, ?_, ?_, hT ▸ fold_all hup⟩
        · rw [← hha, ← hhb, ← hT]
          exact parts_fold hup k
        · rw [← h1.2.1, foldAll_is h1.2.2 HALL.out, hT]
        · rw [← h2.2.1, foldAll_is hl2 hu2, hints_of, hha]
        · rw [← h2.2.2.2.2.1, foldAll_is hl3 hu3, hints_of, hhb]
        · rw [← hha]; exact rising_of (fold_all (take_up hup k)).rise
        · rw [← hhb]; exact rising_of (fold_all (drop_up hup k)).rise)
      have HNN := Lib.hid (show n2 < 1000000 ∧ n3 < 1000000 ∧ n1 ≤ 9000 ∧ manyL [ha, hb] ≤ 100000 from by
        have h2 := HR23.out
        have hl2 := foldAll_len ((numsL N).take k) (ls.take k)
        have hl3 := foldAll_len ((numsL N).drop k) (ls.drop k)
        have hl1 := foldAll_len (numsL N) ls
        rw [h2.2.1, h2.2.2.1] at hl2
        rw [h2.2.2.2.2.1, h2.2.2.2.2.2] at hl3
        rw [HRL.out.2.1, H3.out.2.1] at hl1
        have h4 := HMM.out
        have h5 := HB.out
        have e2 : ha.length = n2 := by rw [← HP.out.2.2.1, List.length_map, h2.2.2.1]
        have e3 : hb.length = n3 := by rw [← HP.out.2.2.2.1, List.length_map, h2.2.2.2.2.2]
        refine ⟨by omega, by omega, by omega, ?_⟩
        simp only [manyL, List.map_cons, List.map_nil, List.sum_cons, List.sum_nil]
        omega)
      clear hT hha hhb
      have hg6 := grows_alloc w5 (.cells #[.int .i64 0, .int .i64 1] 3)
      have hm6 := Whole.made w5 3 #[.int .i64 0, .int .i64 1]
      obtain ⟨W6, hW6⟩ : ∃ V, w5.alloc (.cells #[.int .i64 0, .int .i64 1] 3) = V := ⟨_, rfl⟩
      rw [hW6] at hg6 hm6
      obtain ⟨b6, hb6⟩ : ∃ b, w5.heap.size = b := ⟨_, rfl⟩
      rw [hb6] at hm6
      have HHA := Lib.hid (hints_any W6 ((HL4.out.rs.grow HCw5.out).grow hg6) HNN.out.1)
      have HHB := Lib.hid (fun w7 (hg : Grows W6 w7) => hints_any w7 (HL5.out.rs.grow (Grows.trans hg6 hg)) HNN.out.2.1)
      have H6 := Lib.hid (And.intro hg6 hm6)
      rw [HP.out.2.2.1] at HHA
      rw [HP.out.2.2.2.1] at HHB
      clear hg6 hm6
      go_wp2_with (first | rw [hW6] | fail)
      clear hW6
      refine HHA.out.mono ?_
      rintro e w7 ⟨A7, c7, rfl, o7, g7⟩
      have HQ := Lib.hid (HHB.out w7 g7)
      have H7 := Lib.hid (And.intro o7 g7)
      clear o7 g7 HHA HHB
      go_wp2_with (fail)
      refine HQ.out.mono ?_
      rintro e w8 ⟨A8, c8, rfl, o8, g8⟩
      have hg9 := grows_alloc w8 (.cells #[.slice A7 n2 c7, .slice A8 n3 c8] 36)
      have hm9 := Whole.made w8 36 #[.slice A7 n2 c7, .slice A8 n3 c8]
      obtain ⟨W9, hW9⟩ : ∃ V, w8.alloc (.cells #[.slice A7 n2 c7, .slice A8 n3 c8] 36) = V := ⟨_, rfl⟩
      rw [hW9] at hg9 hm9
      obtain ⟨b9, hb9⟩ : ∃ b, w8.heap.size = b := ⟨_, rfl⟩
      rw [hb9] at hm9
      have hok4 : okFold [0, 1] [ha, hb] = true := by
        rw [okFold_is rfl]
        simp [(upB_rising ha).2 HP.out.2.2.2.2.1, (upB_rising hb).2 HP.out.2.2.2.2.2.1]
      have hal4 : foldAll [0, 1] [ha, hb] = (T.map (fun p => (partOf k p, p.2))).map (segF [0, 1]) := by
        unfold foldAll
        rw [hok4, if_pos rfl, HP.out.1]
      have HF4 := Lib.hid (show Calls Try.prog 10 #[.slice (some ⟨b6, 0, none⟩) 2 2, .slice (some ⟨b9, 0, none⟩) 2 2] W9 fun e w' => ∃ A' n' c', e = .returned (.tuple #[.slice A' n' c', .bool true]) ∧ OwnPl w' W9.heap.size A' n' c' ((T.map (fun p => (partOf k p, p.2))).map (segF [0, 1])) ∧ Grows W9 w' from by
        have h1 := fold_any (some ⟨b6, 0, none⟩) 2 2 [0, 1] (some ⟨b9, 0, none⟩) 2 2 [(A7, n2, c7), (A8, n3, c8)] [ha, hb] W9 ((ins_lit (xs := [0, 1]) H6.out.2 rfl).grow (Grows.trans (Grows.trans H7.out.2 g8) hg9))
          (lls_lit hm9 rfl rfl (fun i s l hs hl => by
            match i with
            | 0 => (simp at hs hl; subst hs hl; exact H7.out.1.hts.grow (Grows.trans g8 hg9))
            | 1 => (simp at hs hl; subst hs hl; exact o8.hts.grow hg9)
            | i + 2 => simp at hs)) (by omega) HNN.out.2.2.2
        rwa [hok4, hal4] at h1)
      have HW9 := Lib.hid (Grows.trans HW5.out (Grows.trans H6.out.1 (Grows.trans (Grows.trans H7.out.2 g8) hg9)))
      have HW59 := Lib.hid (Grows.trans H6.out.1 (Grows.trans (Grows.trans H7.out.2 g8) hg9))
      clear o8 g8 hg9 hm9 hok4 hal4 HQ
      go_wp2_with (first | rw [hW9] | fail)
      clear hW9
      refine HF4.out.mono ?_
      rintro e w10 ⟨A4, n4, c4, rfl, o4, g10⟩
      have hnn : n4 = n1 := by
        have h1 := o4.len
        have h2 := H3.out.2.1
        rw [HP.out.2.1] at h2
        simp only [List.length_map] at h1 h2
        omega
      subst hnn
      have H10 := Lib.hid (show Pls w10 A4 n4 c4 ((T.map (fun p => (partOf k p, p.2))).map (segF [0, 1])) ∧ Pls w10 A1 n4 c1 (T.map (segF (numsL N))) ∧ Grows w w10 ∧ T.length = n4 from ⟨o4.rs, by
        have h1 := H3.out.1
        rw [HP.out.2.1] at h1
        exact h1.grow (Grows.trans (Grows.trans (Grows.trans HCw4.out HCw5.out) HW59.out) g10), Grows.trans HW9.out g10, by
        have h1 := o4.len
        simpa using h1⟩)
      have hn9 : n4 ≤ 9000 := HNN.out.2.2.1
      clear o4 g10 HF4
      go_wp2_with (fail)
      go_loopw [17] (fun vi wr => ∃ (i : Nat), i ≤ n4 ∧ vi = .int .i64 (i : Int) ∧ Hid (Grows w10 wr)) (fun vi _ => n4 - (intOf vi).toNat)
      case atStart => exact ⟨0, Nat.zero_le _, rfl, Lib.hid (Grows.refl _)⟩
      case round =>
        obtain ⟨i, hi, rfl, HG⟩ := hrel
        by_cases hlt : i < n4
        · obtain ⟨bd, ⟨bv, ⟨p0, p1, p2, p3⟩⟩, rfl, hpb, _, hcb⟩ := H10.out.1.at hlt
          obtain ⟨ad, ⟨av, ⟨q0, q1, q2, q3⟩⟩, rfl, hpa, _, hca⟩ := H10.out.2.1.at hlt
          have hiT : i < T.length := by have := H10.out.2.2.2; omega
          obtain ⟨⟨i0, h0⟩, hTi⟩ : ∃ p, T[i]? = some p := ⟨_, List.getElem?_eq_getElem hiT⟩
          have hi0N : i0 < N := by
            have h1 := ((HP.out.2.2.2.2.2.2.iff i0 h0).1 (List.mem_of_getElem? hTi)).1.lt
            have := HX.out.1.len
            omega
          obtain ⟨ea1, ea2⟩ : (i0 : Int) = av ∧ h0 = ⟨q0, q1, q2, q3⟩ := by
            rw [List.getElem?_map, hTi] at hpa
            injection hpa with hpa
            unfold segF at hpa
            dsimp only at hpa
            rw [List.getD_eq_getElem?_getD, numsL_get hi0N] at hpa
            exact Prod.mk.inj hpa
          obtain ⟨eb1, eb2⟩ : (if k ≤ i0 then (1 : Int) else 0) = bv ∧ h0 = ⟨p0, p1, p2, p3⟩ := by
            rw [List.getElem?_map, List.getElem?_map, hTi] at hpb
            injection hpb with hpb
            unfold segF partOf at hpb
            dsimp only at hpb
            refine ⟨?_, (Prod.mk.inj hpb).2⟩
            rw [← (Prod.mk.inj hpb).1]
            split <;> rfl
          rw [ea2] at eb2
          injection eb2 with e0 e1 e2 e3
          subst e0 e1 e2 e3
          subst ea1
          dsimp only at hcb hca
          have k0 : (0 : Int) ≤ (i : Int) := by omega
          have k1 : (i : Int) < (n4 : Int) := by omega
          have HI := Lib.hid (And.intro k0 k1)
          have HAI := Lib.hid (fun w' (hg : Grows wr w') => hca w' (Grows.trans HG.out hg))
          have HBI := Lib.hid (fun w' (hg : Grows wr w') => hcb w' (Grows.trans HG.out hg))
          clear hpb hcb hpa hca hiT hTi hi0N ea2
          by_cases hge : k ≤ i0
          · rw [if_pos hge] at eb1
            subst eb1
            have HGE := Lib.hid hge
            clear hge
            go_wp2_with (fail)
            refine wp_region_facts (E := Grows) [valFact (.slice (some bd) n4 c4), valFact (.int .i64 (i : Int)), valFact (.pointer (some (bd.add (i * 5)))), valFact (.pointer (some { block := (bd.add (i * 5)).block, off := (bd.add (i * 5)).off + 1 })), valFact (.agg #[.int .i64 q0, .string ⟨q1.toArray⟩, .int .i64 q2, .int .i64 q3]), valFact (.slice (some ad) n4 c1), valFact (.int .i64 (i : Int)), valFact (.pointer (some (ad.add (i * 5)))), valFact (.pointer (some { block := (ad.add (i * 5)).block, off := (ad.add (i * 5)).off + 1 })), valFact (.agg #[.int .i64 q0, .string ⟨q1.toArray⟩, .int .i64 q2, .int .i64 q3]), valFact (.bool false), valFact (.bool false), valFact (.slice (some bd) n4 c4), valFact (.int .i64 (i : Int)), valFact (.pointer (some (bd.add (i * 5)))), valFact (.pointer (some (bd.add (i * 5)))), valFact (.int .i64 1), valFact (.bool true), valFact (.slice (some ad) n4 c1), valFact (.int .i64 (i : Int)), valFact (.pointer (some (ad.add (i * 5)))), valFact (.pointer (some (ad.add (i * 5)))), valFact (.int .i64 (i0 : Int)), valFact (.int .i64 (k : Int)), valFact (.bool true), valFact (.bool false), valFact (.bool false)] (by kernel_rfl) (by kernel_rfl) (fun _ _ _ => Grows.trans) (grows_drew _) ?_
            refine f_val (.slice (some bd) n4 c4) (by rfl) ?_ ?_
            · intro w' hC; clear hC; go_simp
            simp only [Act.put, List.setIfInBounds_toArray, List.set_cons_zero, List.set_cons_succ]
            refine f_val (.int .i64 (i : Int)) (by rfl) ?_ ?_
            · intro w' hC; clear hC; go_simp
            simp only [Act.put, List.setIfInBounds_toArray, List.set_cons_zero, List.set_cons_succ]
            refine f_val (.pointer (some (bd.add (i * 5)))) (by rfl) ?_ ?_
            · intro w' hC; have k0 := HI.out; clear hC; go_simp
            simp only [Act.put, List.setIfInBounds_toArray, List.set_cons_zero, List.set_cons_succ]
            refine f_val (.pointer (some { block := (bd.add (i * 5)).block, off := (bd.add (i * 5)).off + 1 })) (by rfl) ?_ ?_
            · intro w' hC; clear hC; go_simp
            simp only [Act.put, List.setIfInBounds_toArray, List.set_cons_zero, List.set_cons_succ]
            refine f_val (.agg #[.int .i64 q0, .string ⟨q1.toArray⟩, .int .i64 q2, .int .i64 q3]) (by rfl) ?_ ?_
            · intro w' hC; obtain ⟨z0, z1, z2, z3, z4⟩ := HBI.out w' hC; clear hC; go_simp
            simp only [Act.put, List.setIfInBounds_toArray, List.set_cons_zero, List.set_cons_succ]
            refine f_val (.slice (some ad) n4 c1) (by rfl) ?_ ?_
            · intro w' hC; clear hC; go_simp
            simp only [Act.put, List.setIfInBounds_toArray, List.set_cons_zero, List.set_cons_succ]
            refine f_val (.int .i64 (i : Int)) (by rfl) ?_ ?_
            · intro w' hC; clear hC; go_simp
            simp only [Act.put, List.setIfInBounds_toArray, List.set_cons_zero, List.set_cons_succ]
            refine f_val (.pointer (some (ad.add (i * 5)))) (by rfl) ?_ ?_
            · intro w' hC; have k0 := HI.out; clear hC; go_simp
            simp only [Act.put, List.setIfInBounds_toArray, List.set_cons_zero, List.set_cons_succ]
            refine f_val (.pointer (some { block := (ad.add (i * 5)).block, off := (ad.add (i * 5)).off + 1 })) (by rfl) ?_ ?_
            · intro w' hC; clear hC; go_simp
            simp only [Act.put, List.setIfInBounds_toArray, List.set_cons_zero, List.set_cons_succ]
            refine f_val (.agg #[.int .i64 q0, .string ⟨q1.toArray⟩, .int .i64 q2, .int .i64 q3]) (by rfl) ?_ ?_
            · intro w' hC; obtain ⟨z0, z1, z2, z3, z4⟩ := HAI.out w' hC; clear hC; go_simp
            simp only [Act.put, List.setIfInBounds_toArray, List.set_cons_zero, List.set_cons_succ]
            refine f_val (.bool false) (by rfl) ?_ ?_
            · intro w' hC; clear hC; go_simp
            simp only [Act.put, List.setIfInBounds_toArray, List.set_cons_zero, List.set_cons_succ]
            refine f_val (.bool false) (by rfl) ?_ ?_
            · intro w' hC; clear hC; go_simp
            simp only [Act.put, List.setIfInBounds_toArray, List.set_cons_zero, List.set_cons_succ]
            refine f_val (.slice (some bd) n4 c4) (by rfl) ?_ ?_
            · intro w' hC; clear hC; go_simp
            simp only [Act.put, List.setIfInBounds_toArray, List.set_cons_zero, List.set_cons_succ]
            refine f_val (.int .i64 (i : Int)) (by rfl) ?_ ?_
            · intro w' hC; clear hC; go_simp
            simp only [Act.put, List.setIfInBounds_toArray, List.set_cons_zero, List.set_cons_succ]
            refine f_val (.pointer (some (bd.add (i * 5)))) (by rfl) ?_ ?_
            · intro w' hC; have k0 := HI.out; clear hC; go_simp
            simp only [Act.put, List.setIfInBounds_toArray, List.set_cons_zero, List.set_cons_succ]
            refine f_val (.pointer (some (bd.add (i * 5)))) (by rfl) ?_ ?_
            · intro w' hC; clear hC; go_simp
            simp only [Act.put, List.setIfInBounds_toArray, List.set_cons_zero, List.set_cons_succ]
            refine f_val (.int .i64 1) (by rfl) ?_ ?_
            · intro w' hC; obtain ⟨z0, z1, z2, z3, z4⟩ := HBI.out w' hC; clear hC; go_simp
            simp only [Act.put, List.setIfInBounds_toArray, List.set_cons_zero, List.set_cons_succ]
            refine f_val (.bool true) (by rfl) ?_ ?_
            · intro w' hC; clear hC; go_simp
            simp only [Act.put, List.setIfInBounds_toArray, List.set_cons_zero, List.set_cons_succ]
            refine f_val (.slice (some ad) n4 c1) (by rfl) ?_ ?_
            · intro w' hC; clear hC; go_simp
            simp only [Act.put, List.setIfInBounds_toArray, List.set_cons_zero, List.set_cons_succ]
            refine f_val (.int .i64 (i : Int)) (by rfl) ?_ ?_
            · intro w' hC; clear hC; go_simp
            simp only [Act.put, List.setIfInBounds_toArray, List.set_cons_zero, List.set_cons_succ]
            refine f_val (.pointer (some (ad.add (i * 5)))) (by rfl) ?_ ?_
            · intro w' hC; have k0 := HI.out; clear hC; go_simp
            simp only [Act.put, List.setIfInBounds_toArray, List.set_cons_zero, List.set_cons_succ]
            refine f_val (.pointer (some (ad.add (i * 5)))) (by rfl) ?_ ?_
            · intro w' hC; clear hC; go_simp
            simp only [Act.put, List.setIfInBounds_toArray, List.set_cons_zero, List.set_cons_succ]
            refine f_val (.int .i64 (i0 : Int)) (by rfl) ?_ ?_
            · intro w' hC; obtain ⟨z0, z1, z2, z3, z4⟩ := HAI.out w' hC; clear hC; go_simp
            simp only [Act.put, List.setIfInBounds_toArray, List.set_cons_zero, List.set_cons_succ]
            refine f_val (.int .i64 (k : Int)) (by rfl) ?_ ?_
            · intro w' hC; clear hC; go_simp
            simp only [Act.put, List.setIfInBounds_toArray, List.set_cons_zero, List.set_cons_succ]
            refine f_val (.bool true) (by rfl) ?_ ?_
            · intro w' hC; have k0 := HGE.out; clear hC; go_simp
            simp only [Act.put, List.setIfInBounds_toArray, List.set_cons_zero, List.set_cons_succ]
            refine f_val (.bool false) (by rfl) ?_ ?_
            · intro w' hC; clear hC; go_simp
            simp only [Act.put, List.setIfInBounds_toArray, List.set_cons_zero, List.set_cons_succ]
            refine f_val (.bool false) (by rfl) ?_ ?_
            · intro w' hC; clear hC; go_simp
            simp only [Act.put, List.setIfInBounds_toArray, List.set_cons_zero, List.set_cons_succ]
            refine wpF_end ?_
            intro w9 hC hks
            have HCw9 := Lib.hid hC
            clear hC hks
            go_wp2_with (fail)
            go_roundw
            case rel => exact ⟨i + 1, by omega, by first | rfl | go_num, Lib.hid (Grows.trans HG.out HCw9.out)⟩
            case measure => simp [intOf]; omega
          · rw [if_neg hge] at eb1
            subst eb1
            have HGE := Lib.hid hge
            clear hge
            go_wp2_with (fail)
            refine wp_region_facts (E := Grows) [valFact (.slice (some bd) n4 c4), valFact (.int .i64 (i : Int)), valFact (.pointer (some (bd.add (i * 5)))), valFact (.pointer (some { block := (bd.add (i * 5)).block, off := (bd.add (i * 5)).off + 1 })), valFact (.agg #[.int .i64 q0, .string ⟨q1.toArray⟩, .int .i64 q2, .int .i64 q3]), valFact (.slice (some ad) n4 c1), valFact (.int .i64 (i : Int)), valFact (.pointer (some (ad.add (i * 5)))), valFact (.pointer (some { block := (ad.add (i * 5)).block, off := (ad.add (i * 5)).off + 1 })), valFact (.agg #[.int .i64 q0, .string ⟨q1.toArray⟩, .int .i64 q2, .int .i64 q3]), valFact (.bool false), valFact (.bool false), valFact (.slice (some bd) n4 c4), valFact (.int .i64 (i : Int)), valFact (.pointer (some (bd.add (i * 5)))), valFact (.pointer (some (bd.add (i * 5)))), valFact (.int .i64 0), valFact (.bool false), valFact (.slice (some ad) n4 c1), valFact (.int .i64 (i : Int)), valFact (.pointer (some (ad.add (i * 5)))), valFact (.pointer (some (ad.add (i * 5)))), valFact (.int .i64 (i0 : Int)), valFact (.int .i64 (k : Int)), valFact (.bool false), valFact (.bool false), valFact (.bool false)] (by kernel_rfl) (by kernel_rfl) (fun _ _ _ => Grows.trans) (grows_drew _) ?_
            refine f_val (.slice (some bd) n4 c4) (by rfl) ?_ ?_
            · intro w' hC; clear hC; go_simp
            simp only [Act.put, List.setIfInBounds_toArray, List.set_cons_zero, List.set_cons_succ]
            refine f_val (.int .i64 (i : Int)) (by rfl) ?_ ?_
            · intro w' hC; clear hC; go_simp
            simp only [Act.put, List.setIfInBounds_toArray, List.set_cons_zero, List.set_cons_succ]
            refine f_val (.pointer (some (bd.add (i * 5)))) (by rfl) ?_ ?_
            · intro w' hC; have k0 := HI.out; clear hC; go_simp
            simp only [Act.put, List.setIfInBounds_toArray, List.set_cons_zero, List.set_cons_succ]
            refine f_val (.pointer (some { block := (bd.add (i * 5)).block, off := (bd.add (i * 5)).off + 1 })) (by rfl) ?_ ?_
            · intro w' hC; clear hC; go_simp
            simp only [Act.put, List.setIfInBounds_toArray, List.set_cons_zero, List.set_cons_succ]
            refine f_val (.agg #[.int .i64 q0, .string ⟨q1.toArray⟩, .int .i64 q2, .int .i64 q3]) (by rfl) ?_ ?_
            · intro w' hC; obtain ⟨z0, z1, z2, z3, z4⟩ := HBI.out w' hC; clear hC; go_simp
            simp only [Act.put, List.setIfInBounds_toArray, List.set_cons_zero, List.set_cons_succ]
            refine f_val (.slice (some ad) n4 c1) (by rfl) ?_ ?_
            · intro w' hC; clear hC; go_simp
            simp only [Act.put, List.setIfInBounds_toArray, List.set_cons_zero, List.set_cons_succ]
            refine f_val (.int .i64 (i : Int)) (by rfl) ?_ ?_
            · intro w' hC; clear hC; go_simp
            simp only [Act.put, List.setIfInBounds_toArray, List.set_cons_zero, List.set_cons_succ]
            refine f_val (.pointer (some (ad.add (i * 5)))) (by rfl) ?_ ?_
            · intro w' hC; have k0 := HI.out; clear hC; go_simp
            simp only [Act.put, List.setIfInBounds_toArray, List.set_cons_zero, List.set_cons_succ]
            refine f_val (.pointer (some { block := (ad.add (i * 5)).block, off := (ad.add (i * 5)).off + 1 })) (by rfl) ?_ ?_
            · intro w' hC; clear hC; go_simp
            simp only [Act.put, List.setIfInBounds_toArray, List.set_cons_zero, List.set_cons_succ]
            refine f_val (.agg #[.int .i64 q0, .string ⟨q1.toArray⟩, .int .i64 q2, .int .i64 q3]) (by rfl) ?_ ?_
            · intro w' hC; obtain ⟨z0, z1, z2, z3, z4⟩ := HAI.out w' hC; clear hC; go_simp
            simp only [Act.put, List.setIfInBounds_toArray, List.set_cons_zero, List.set_cons_succ]
            refine f_val (.bool false) (by rfl) ?_ ?_
            · intro w' hC; clear hC; go_simp
            simp only [Act.put, List.setIfInBounds_toArray, List.set_cons_zero, List.set_cons_succ]
            refine f_val (.bool false) (by rfl) ?_ ?_
            · intro w' hC; clear hC; go_simp
            simp only [Act.put, List.setIfInBounds_toArray, List.set_cons_zero, List.set_cons_succ]
            refine f_val (.slice (some bd) n4 c4) (by rfl) ?_ ?_
            · intro w' hC; clear hC; go_simp
            simp only [Act.put, List.setIfInBounds_toArray, List.set_cons_zero, List.set_cons_succ]
            refine f_val (.int .i64 (i : Int)) (by rfl) ?_ ?_
            · intro w' hC; clear hC; go_simp
            simp only [Act.put, List.setIfInBounds_toArray, List.set_cons_zero, List.set_cons_succ]
            refine f_val (.pointer (some (bd.add (i * 5)))) (by rfl) ?_ ?_
            · intro w' hC; have k0 := HI.out; clear hC; go_simp
            simp only [Act.put, List.setIfInBounds_toArray, List.set_cons_zero, List.set_cons_succ]
            refine f_val (.pointer (some (bd.add (i * 5)))) (by rfl) ?_ ?_
            · intro w' hC; clear hC; go_simp
            simp only [Act.put, List.setIfInBounds_toArray, List.set_cons_zero, List.set_cons_succ]
            refine f_val (.int .i64 0) (by rfl) ?_ ?_
            · intro w' hC; obtain ⟨z0, z1, z2, z3, z4⟩ := HBI.out w' hC; clear hC; go_simp
            simp only [Act.put, List.setIfInBounds_toArray, List.set_cons_zero, List.set_cons_succ]
            refine f_val (.bool false) (by rfl) ?_ ?_
            · intro w' hC; clear hC; go_simp
            simp only [Act.put, List.setIfInBounds_toArray, List.set_cons_zero, List.set_cons_succ]
            refine f_val (.slice (some ad) n4 c1) (by rfl) ?_ ?_
            · intro w' hC; clear hC; go_simp
            simp only [Act.put, List.setIfInBounds_toArray, List.set_cons_zero, List.set_cons_succ]
            refine f_val (.int .i64 (i : Int)) (by rfl) ?_ ?_
            · intro w' hC; clear hC; go_simp
            simp only [Act.put, List.setIfInBounds_toArray, List.set_cons_zero, List.set_cons_succ]
            refine f_val (.pointer (some (ad.add (i * 5)))) (by rfl) ?_ ?_
            · intro w' hC; have k0 := HI.out; clear hC; go_simp
            simp only [Act.put, List.setIfInBounds_toArray, List.set_cons_zero, List.set_cons_succ]
            refine f_val (.pointer (some (ad.add (i * 5)))) (by rfl) ?_ ?_
            · intro w' hC; clear hC; go_simp
            simp only [Act.put, List.setIfInBounds_toArray, List.set_cons_zero, List.set_cons_succ]
            refine f_val (.int .i64 (i0 : Int)) (by rfl) ?_ ?_
            · intro w' hC; obtain ⟨z0, z1, z2, z3, z4⟩ := HAI.out w' hC; clear hC; go_simp
            simp only [Act.put, List.setIfInBounds_toArray, List.set_cons_zero, List.set_cons_succ]
            refine f_val (.int .i64 (k : Int)) (by rfl) ?_ ?_
            · intro w' hC; clear hC; go_simp
            simp only [Act.put, List.setIfInBounds_toArray, List.set_cons_zero, List.set_cons_succ]
            refine f_val (.bool false) (by rfl) ?_ ?_
            · intro w' hC; have k0 := HGE.out; clear hC; go_simp
            simp only [Act.put, List.setIfInBounds_toArray, List.set_cons_zero, List.set_cons_succ]
            refine f_val (.bool false) (by rfl) ?_ ?_
            · intro w' hC; clear hC; go_simp
            simp only [Act.put, List.setIfInBounds_toArray, List.set_cons_zero, List.set_cons_succ]
            refine f_val (.bool false) (by rfl) ?_ ?_
            · intro w' hC; clear hC; go_simp
            simp only [Act.put, List.setIfInBounds_toArray, List.set_cons_zero, List.set_cons_succ]
            refine wpF_end ?_
            intro w9 hC hks
            have HCw9 := Lib.hid hC
            clear hC hks
            go_wp2_with (fail)
            go_roundw
            case rel => exact ⟨i + 1, by omega, by first | rfl | go_num, Lib.hid (Grows.trans HG.out HCw9.out)⟩
            case measure => simp [intOf]; omega
        · obtain rfl : n4 = i := by omega
          go_wp2_with (fail)
          go_ret
          exact ⟨rfl, Grows.trans H10.out.2.2.1 HG.out⟩

set_option maxRecDepth 100000 in
theorem foldParts_lifted (os : Os) (started : os.Started) (H : Type) (enc : TypeId × Value → H) :
    ReturnsInHanded {} Try.checked os 5 .any (Rows.foldPartsSpec.pre6 enc Try.prog Try.f5 Rows.foldPartsRow.domain false) (Rows.foldPartsSpec.post enc Try.prog Try.f5 false true false false) := by
  refine lift_law (C := Try.checked) H enc own started (by kernel_rfl) Try.func5
    (ChangeSpec.witness6 (enc := enc) (C := Try.checked) false ⟨#[], #[.slice none 0 0, .int .u8 0], []⟩ 16 (by kernel_rfl) (by kernel_rfl) (by kernel_rfl) (by kernel_rfl))
    laidOut (of_readable (by kernel_rfl)) rfl Try.underlying4 rfl (fun ds hd => ?_) (fun W base args ds p hval hA hsz => ?_)
  · match ds, hd with
    | [d1, d2], _ => rfl
  · rw [Try.params5] at hA hval hsz
    obtain ⟨v0, vs0, d0, ds0, p0, q0, hargs, rfl, rfl, h0, r0⟩ := trodAll_cons hA
    obtain ⟨v1, vs1, d1, ds1, p1, q1, rfl, rfl, rfl, h1, r1⟩ := trodAll_cons r0
    obtain ⟨rfl, rfl, rfl⟩ := trodAll_nil r1
    obtain rfl : args = #[v0, v1] := by cases args; simp_all
    obtain ⟨A0, n0, c0, sl0, xs0, rfl, hx0, hb0, hc0⟩ := open_llsF (hval 0 23 v0 rfl rfl) h0 hsz (j := 0) rfl rfl
    obtain ⟨a1, rfl, _, _, w1⟩ := open_int Try.underlying5 (hval 1 5 v1 rfl rfl) h1
    have b1 := bounds_u8 w1
    exact foldParts_law W A0 n0 c0 sl0 xs0 hx0 hb0 hc0 a1 (by omega)

theorem foldParts_over : Rows.foldPartsRow.holds Try.pinned (OpenSpec.ofChange Rows.foldPartsSpec) :=
  OpenClaim.holds_of_wide 5 Try.f5 rfl rfl rfl rfl rfl rfl rfl ⟨rfl, rfl, rfl, rfl, rfl⟩ rfl rfl rfl rfl rfl (by kernel_rfl) Try.func5 (by kernel_rfl)
    (of_decide_eq_true (by kernel_rfl)) (by unfold Func.isWrapper; first | (rw [if_pos (by decide +kernel)]; kernel_rfl) | (rw [if_neg (by decide +kernel)]; exact ⟨rfl, rfl⟩))
    (fun os started H enc _ => foldParts_lifted os started H enc)
theorem foldParts_holds : Rows.FoldPartsSaid := foldParts_over
end Go.Proofs.Ytnnkioekjobbmaa