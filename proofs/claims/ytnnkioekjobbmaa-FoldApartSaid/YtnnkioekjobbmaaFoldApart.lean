/-
  Statement FoldApart: lists of unlike keys are all told, and a list of tombs leaves nothing alive. Every list of hints, and every number, no condition.
-/
import Derived.Test.YtnnkioekjobbmaaFdTwo
import Derived.Test.YtnnkioekjobbmaaFdGreat
import Derived.Test.YtnnkioekjobbmaaFdIn
import Derived.Test.YtnnkioekjobbmaaFdHints
import Derived.Test.YtnnkioekjobbmaaFdRight
import Derived.ProofKit
import Derived.ChangeOld
namespace Go.Proofs.Ytnnkioekjobbmaa
open Go.ChangeShapes Go.WideShapes Go.ChangeAt Go.RowKit
set_option linter.unusedSimpArgs false
set_option linter.unusedVariables false
attribute [local irreducible] wpF
set_option maxRecDepth 100000 in
set_option maxHeartbeats 8000000 in
theorem foldApart_law (w : World) (A : Option Addr) (N c : Nat) (l : List Ht) (hx : Hts w A N c l) (hN : N ≤ 4000000000000) (s : Int) (hs : 0 ≤ s ∧ s < 256) :
    Calls Try.prog 7 #[.slice A N c, .int .u8 s] w fun e w' => e = .returned (.bool true) ∧ Below w.heap.size w w' := by
  obtain ⟨S, rfl⟩ := Int.eq_ofNat_of_zero_le hs.1
  have HX := Lib.hid (And.intro hx (And.intro hN hx.len))
  have HSS := Lib.hid (show S < 256 from by omega)
  clear hx hN hs
  go_enter Try.func7, Try.ntmps7
  go_wp2_with (fail)
  refine (head14_any w).mono ?_
  rintro e w1 ⟨rfl, hg1⟩
  have HG1 := Lib.hid hg1
  have hg0 := grows_alloc w1 (.cells #[.slice A N c] 36)
  have hm0 := Whole.made w1 36 #[.slice A N c]
  obtain ⟨V0, hV0⟩ : ∃ V, w1.alloc (.cells #[.slice A N c] 36) = V := ⟨_, rfl⟩
  rw [hV0] at hg0 hm0
  obtain ⟨b0, hb0⟩ : ∃ b, w1.heap.size = b := ⟨_, rfl⟩
  rw [hb0] at hm0
  have HGT := Lib.hid (great_any (some ⟨b0, 0, none⟩) 1 1 [(A, N, c)] [l] V0 (lls_lit hm0 rfl rfl (fun i s' l' h1 h2 => by
    match i with
    | 0 => (simp at h1 h2; subst h1 h2; exact HX.out.1.grow (Grows.trans hg1 hg0))
    | i + 1 => simp at h1)) (by omega) (fun l' hl => by rw [List.mem_singleton.1 hl]; have := HX.out.2; omega))
  have HG0 := Lib.hid (Grows.trans hg1 hg0)
  clear hg1 hg0 hm0
  go_wp2_with (first | rw [hV0] | fail)
  clear hV0
  refine HGT.out.mono ?_
  rintro e w2 ⟨g, rfl, hsm, hg2⟩
  have HG2 := Lib.hid (Grows.trans HG0.out hg2)
  clear hg2 HGT
  cases g
  rotate_left
  · clear hsm
    go_wp2_with (fail)
    go_ret
    exact ⟨rfl, HG2.out⟩
  have hN9 : N ≤ 9000 := by
    have h1 := (hsm rfl).2
    have h2 := HX.out.2.2
    simp only [manyL, List.map_cons, List.map_nil, List.sum_cons, List.sum_nil] at h1
    omega
  clear hsm
  have HRT := Lib.hid (right_any A N c l w2 (HX.out.1.grow HG2.out) (by omega))
  obtain ⟨u, hu⟩ : ∃ u, upB l = u := ⟨_, rfl⟩
  rw [hu] at HRT
  go_wp2_with (fail)
  refine HRT.out.mono ?_
  rintro e w3 ⟨rfl, g3⟩
  have HW3 := Lib.hid (Grows.trans HG2.out g3)
  clear g3 HRT
  cases u
  · go_wp2_with (fail)
    go_ret
    exact ⟨rfl, HW3.out⟩
  have HUP := Lib.hid ((upB_rising l).1 hu)
  clear hu
  have hS := HSS.out
  obtain ⟨N1, hN1e⟩ : ∃ k, N + 1 = k := ⟨_, rfl⟩
  obtain ⟨k, hk⟩ : ∃ k, S % N1 = k := ⟨_, rfl⟩
  have hkN : k ≤ N := by
    have := Nat.mod_lt S (show 0 < N1 by omega)
    omega
  have hmod : (S : Int).tmod (N1 : Int) = (k : Int) := tmod_natF _ _ _ hk
  have e1 : (N : Int) + 1 = (N1 : Int) := by omega
  have e2 : ¬ (N1 : Int) = 0 := by omega
  have e3 : ¬ N1 = 0 := by omega
  obtain ⟨b1, b2⟩ := wrapI (x := (N1 : Int)) (by omega) (by omega)
  obtain ⟨b3, b4⟩ := wrapI (x := (S : Int)) (by omega) (by omega)
  obtain ⟨b5, b6⟩ := wrapI (x := (k : Int)) (by omega) (by omega)
  have HKN := Lib.hid hkN
  obtain ⟨hs1, A2, c2, hs2, hd2⟩ := cut_hts (HX.out.1.grow HW3.out) hkN (by omega)
  obtain ⟨m, hm⟩ : ∃ m, N - k = m := ⟨_, rfl⟩
  rw [hm] at hs2 hd2
  have HS1 := Lib.hid hs1
  have HS2 := Lib.hid hs2
  have HD := Lib.hid (And.intro (Hts.first4 (HX.out.1.grow HW3.out) hkN) hd2)
  obtain ⟨L1, hL1⟩ : ∃ L, cutsP k l = L := ⟨_, rfl⟩
  obtain ⟨n1, hn1⟩ : ∃ k, L1.length = k := ⟨_, rfl⟩
  have hnN : n1 = N := by rw [← hn1, ← hL1, cuts_len, HX.out.2.2]
  have HL1 := Lib.hid (And.intro hL1 hn1)
  have HCA := Lib.hid (show ∀ (w' : World) (g1 g2 : Nat), Grows w3 w' → Whole w' g1 3 #[.int .i64 1, .int .i64 2] → Whole w' g2 36 #[.slice A k c, .slice A2 m c2] → Calls Try.prog 10 #[.slice (some ⟨g1, 0, none⟩) 2 2, .slice (some ⟨g2, 0, none⟩) 2 2] w' fun e w'' => Grows w' w'' ∧ ∃ x : Option Addr × Nat, e = .returned (.tuple #[.slice x.1 n1 x.2, .bool true]) ∧ OwnPl w'' w.heap.size x.1 n1 x.2 L1 from fun w' g1 g2 hg h1 h2 => by
    have h3 := fold_any (some ⟨g1, 0, none⟩) 2 2 [1, 2] (some ⟨g2, 0, none⟩) 2 2 [(A, k, c), (A2, m, c2)] [l.take k, l.drop k] w' (ins_lit (xs := [1, 2]) h1 rfl) (lls_two h2 (HD.out.1.grow hg) (HD.out.2.grow hg)) (by omega) (by
      rw [manyL_two, ← List.length_append, List.take_append_drop]
      have := HX.out.2.2
      omega)
    rw [cuts_all HUP.out k, ok_two (List.Pairwise.sublist (List.take_sublist _ _) HUP.out) (List.Pairwise.sublist (List.drop_sublist _ _) HUP.out), HL1.out.1] at h3
    exact h3.mono fun e w'' ⟨A9, n9, c9, q1, q2, q3⟩ => by
      have hl := q2.len
      rw [HL1.out.2] at hl
      subst hl
      exact ⟨q3, (A9, c9), q1, owned_from q2 (Grows.trans HW3.out hg).size⟩)
  clear hs1 hs2 hd2 hL1 hn1 hk hN1e hkN hm hS
  go_wp2_with (fail)
  clear hmod e1 e2 e3 b1 b2 b3 b4 b5 b6
  refine wp_region_facts (E := Grows) [blkFact (3) (#[.int .i64 1, .int .i64 2]) 2, valFact (.slice A N c), valFact (.int .i64 (k : Int)), valFact (.slice A k c), valFact (.slice A N c), valFact (.int .i64 (k : Int)), valFact (.slice A2 m c2), blkFact (36) (#[.slice A k c, .slice A2 m c2]) 2, rowT w.heap.size n1 true L1, rowT w.heap.size n1 true L1, rowO w.heap.size n1 L1, valFact (.bool true), rowO w.heap.size n1 L1, valFact (.bool true)] (by kernel_rfl) (by kernel_rfl) (fun _ _ _ => Grows.trans) (grows_drew _) ?_
  refine f_made (3) (#[.int .i64 1, .int .i64 2]) 2 (by rfl) ?_ ?_
  · intro w' hC; clear hC; go_simp
  intro g1
  simp only [Act.put, List.setIfInBounds_toArray, List.set_cons_zero, List.set_cons_succ]
  refine f_val (.slice A N c) (by rfl) ?_ ?_
  · intro w' hC; clear hC; go_simp
  simp only [Act.put, List.setIfInBounds_toArray, List.set_cons_zero, List.set_cons_succ]
  refine f_val (.int .i64 (k : Int)) (by rfl) ?_ ?_
  · intro w' hC; clear hC; go_simp
  simp only [Act.put, List.setIfInBounds_toArray, List.set_cons_zero, List.set_cons_succ]
  refine f_val (.slice A k c) (by rfl) ?_ ?_
  · intro w' hC; have z := HS1.out w'; clear hC; go_simp
  simp only [Act.put, List.setIfInBounds_toArray, List.set_cons_zero, List.set_cons_succ]
  refine f_val (.slice A N c) (by rfl) ?_ ?_
  · intro w' hC; clear hC; go_simp
  simp only [Act.put, List.setIfInBounds_toArray, List.set_cons_zero, List.set_cons_succ]
  refine f_val (.int .i64 (k : Int)) (by rfl) ?_ ?_
  · intro w' hC; clear hC; go_simp
  simp only [Act.put, List.setIfInBounds_toArray, List.set_cons_zero, List.set_cons_succ]
  refine f_val (.slice A2 m c2) (by rfl) ?_ ?_
  · intro w' hC; have z := HS2.out w'; clear hC; go_simp
  simp only [Act.put, List.setIfInBounds_toArray, List.set_cons_zero, List.set_cons_succ]
  refine f_made (36) (#[.slice A k c, .slice A2 m c2]) 2 (by rfl) ?_ ?_
  · intro w' hC; clear hC; go_simp
  intro g2
  simp only [Act.put, List.setIfInBounds_toArray, List.set_cons_zero, List.set_cons_succ]
  refine f_callK 10 #[.slice (some ⟨g1, 0, none⟩) 2 2, .slice (some ⟨g2, 0, none⟩) 2 2] (by rfl) (by intro w' hC; clear hC; go_simp) ?_ ?_
  · intro w' hC hks
    exact HCA.out w' g1 g2 hC (Known.get hks 1 rfl rfl) (Known.get hks 0 rfl rfl)
  rintro ⟨A1, c1⟩
  dsimp only [rowT]
  simp only [Act.put, List.setIfInBounds_toArray, List.set_cons_zero, List.set_cons_succ]
  refine f_anyF (A1, c1) (by rfl) ?_ ?_
  · intro w' hC hks; refine ⟨?_, Known.get hks 0 rfl rfl⟩; clear hC hks; dsimp only [rowT]; first | (go_simp; done)
  rintro ⟨A1, c1⟩
  dsimp only [rowT]
  simp only [Act.put, List.setIfInBounds_toArray, List.set_cons_zero, List.set_cons_succ]
  refine f_anyF (A1, c1) (by rfl) ?_ ?_
  · intro w' hC hks; refine ⟨?_, Known.get hks 0 rfl rfl⟩; clear hC hks; dsimp only [rowO]; first | (go_simp; done)
  rintro ⟨A1, c1⟩
  dsimp only [rowO]
  simp only [Act.put, List.setIfInBounds_toArray, List.set_cons_zero, List.set_cons_succ]
  refine f_val (.bool true) (by rfl) ?_ ?_
  · intro w' hC; clear hC; go_simp
  simp only [Act.put, List.setIfInBounds_toArray, List.set_cons_zero, List.set_cons_succ]
  refine f_anyF (A1, c1) (by rfl) ?_ ?_
  · intro w' hC hks; refine ⟨?_, Known.get hks 0 rfl rfl⟩; clear hC hks; dsimp only [rowO]; first | (go_simp; done)
  rintro ⟨A1, c1⟩
  dsimp only [rowO]
  simp only [Act.put, List.setIfInBounds_toArray, List.set_cons_zero, List.set_cons_succ]
  refine f_val (.bool true) (by rfl) ?_ ?_
  · intro w' hC; clear hC; go_simp
  simp only [Act.put, List.setIfInBounds_toArray, List.set_cons_zero, List.set_cons_succ]
  refine wpF_end ?_
  intro w4 hC hks
  have HCw4 := Lib.hid hC
  have HL4 := Lib.hid (Known.at hks 0 rfl)
  clear hC hks
  have HL4 := Lib.hid (show OwnPl w4 w.heap.size A1 n1 c1 L1 from HL4.out)
  have HW4 := Lib.hid (Grows.trans HW3.out HCw4.out)
  clear HCA HS1 HS2 HD
  subst hnN
  go_wp2_with (fail)
  go_loopw [9, 10] (fun vo vi wr => ∃ (i : Nat) (AW : Option Addr) (cW : Nat), i ≤ n1 ∧ vi = .int .i64 (i : Int) ∧ vo = .slice AW i cW ∧ Hid (OwnHt wr w4.heap.size AW i cW ((l.take i).map tombP) ∧ Grows w4 wr)) (fun _ vi _ => n1 - (intOf vi).toNat)
  case atStart => exact ⟨0, none, 0, Nat.zero_le _, rfl, rfl, Lib.hid ⟨ownHt_nil _ _, Grows.refl _⟩⟩
  case round =>
    obtain ⟨i, AW, cW, hi, rfl, rfl, HT⟩ := hrel
    by_cases hlt : i < n1
    · obtain ⟨bd, ⟨q0, q1, q2, q3⟩, rfl, hpb, _, hcb⟩ := Hts.at HX.out.1 hlt
      dsimp only at hcb
      have k0 : (0 : Int) ≤ (i : Int) := by omega
      have k1 : (i : Int) < (n1 : Int) := by omega
      have HI := Lib.hid (And.intro k0 k1)
      have HBI := Lib.hid (fun w' (hg : Grows wr w') => hcb w' (Grows.trans HW4.out (Grows.trans HT.out.2 hg)))
      have HTS := Lib.hid (tombs_step hpb)
      clear hpb hcb
      go_wp2_with (fail)
      refine wp_region_facts_tail (E := Grows) 18 [valFact (.slice AW i cW), valFact (.slice (some bd) n1 c), valFact (.int .i64 (i : Int)), valFact (.pointer (some (bd.add (i * 4)))), valFact (.pointer (some { block := (bd.add (i * 4)).block, off := (bd.add (i * 4)).off + 1 })), valFact (.string ⟨q1.toArray⟩), valFact (.slice (some bd) n1 c), valFact (.int .i64 (i : Int)), valFact (.pointer (some (bd.add (i * 4)))), valFact (.pointer (some { block := (bd.add (i * 4)).block, off := (bd.add (i * 4)).off + 2 })), valFact (.int .i64 q2), valFact (.slice (some bd) n1 c), valFact (.int .i64 (i : Int)), valFact (.pointer (some (bd.add (i * 4)))), valFact (.pointer (some { block := (bd.add (i * 4)).block, off := (bd.add (i * 4)).off + 3 })), valFact (.int .i64 q3), valFact (.agg #[.int .i64 4, .string ⟨q1.toArray⟩, .int .i64 q2, .int .i64 q3]), blkFact (33) (#[.int .i64 4, .string ⟨q1.toArray⟩, .int .i64 q2, .int .i64 q3]) 1] mixed (by kernel_rfl) (fun _ _ _ => Grows.trans) (grows_drew _) ?_
      simp only [List.take_succ_cons, List.take_zero, List.drop_succ_cons, List.drop_zero]
      refine f_val (.slice AW i cW) (by rfl) ?_ ?_
      · intro w' hC; clear hC; go_simp
      simp only [Act.put, List.setIfInBounds_toArray, List.set_cons_zero, List.set_cons_succ]
      refine f_val (.slice (some bd) n1 c) (by rfl) ?_ ?_
      · intro w' hC; clear hC; go_simp
      simp only [Act.put, List.setIfInBounds_toArray, List.set_cons_zero, List.set_cons_succ]
      refine f_val (.int .i64 (i : Int)) (by rfl) ?_ ?_
      · intro w' hC; clear hC; go_simp
      simp only [Act.put, List.setIfInBounds_toArray, List.set_cons_zero, List.set_cons_succ]
      refine f_val (.pointer (some (bd.add (i * 4)))) (by rfl) ?_ ?_
      · intro w' hC; have k0 := HI.out; clear hC; go_simp
      simp only [Act.put, List.setIfInBounds_toArray, List.set_cons_zero, List.set_cons_succ]
      refine f_val (.pointer (some { block := (bd.add (i * 4)).block, off := (bd.add (i * 4)).off + 1 })) (by rfl) ?_ ?_
      · intro w' hC; clear hC; go_simp
      simp only [Act.put, List.setIfInBounds_toArray, List.set_cons_zero, List.set_cons_succ]
      refine f_val (.string ⟨q1.toArray⟩) (by rfl) ?_ ?_
      · intro w' hC; obtain ⟨y0, y1, y2, y3⟩ := HBI.out w' hC; clear hC; go_simp
      simp only [Act.put, List.setIfInBounds_toArray, List.set_cons_zero, List.set_cons_succ]
      refine f_val (.slice (some bd) n1 c) (by rfl) ?_ ?_
      · intro w' hC; clear hC; go_simp
      simp only [Act.put, List.setIfInBounds_toArray, List.set_cons_zero, List.set_cons_succ]
      refine f_val (.int .i64 (i : Int)) (by rfl) ?_ ?_
      · intro w' hC; clear hC; go_simp
      simp only [Act.put, List.setIfInBounds_toArray, List.set_cons_zero, List.set_cons_succ]
      refine f_val (.pointer (some (bd.add (i * 4)))) (by rfl) ?_ ?_
      · intro w' hC; have k0 := HI.out; clear hC; go_simp
      simp only [Act.put, List.setIfInBounds_toArray, List.set_cons_zero, List.set_cons_succ]
      refine f_val (.pointer (some { block := (bd.add (i * 4)).block, off := (bd.add (i * 4)).off + 2 })) (by rfl) ?_ ?_
      · intro w' hC; clear hC; go_simp
      simp only [Act.put, List.setIfInBounds_toArray, List.set_cons_zero, List.set_cons_succ]
      refine f_val (.int .i64 q2) (by rfl) ?_ ?_
      · intro w' hC; obtain ⟨y0, y1, y2, y3⟩ := HBI.out w' hC; clear hC; go_simp
      simp only [Act.put, List.setIfInBounds_toArray, List.set_cons_zero, List.set_cons_succ]
      refine f_val (.slice (some bd) n1 c) (by rfl) ?_ ?_
      · intro w' hC; clear hC; go_simp
      simp only [Act.put, List.setIfInBounds_toArray, List.set_cons_zero, List.set_cons_succ]
      refine f_val (.int .i64 (i : Int)) (by rfl) ?_ ?_
      · intro w' hC; clear hC; go_simp
      simp only [Act.put, List.setIfInBounds_toArray, List.set_cons_zero, List.set_cons_succ]
      refine f_val (.pointer (some (bd.add (i * 4)))) (by rfl) ?_ ?_
      · intro w' hC; have k0 := HI.out; clear hC; go_simp
      simp only [Act.put, List.setIfInBounds_toArray, List.set_cons_zero, List.set_cons_succ]
      refine f_val (.pointer (some { block := (bd.add (i * 4)).block, off := (bd.add (i * 4)).off + 3 })) (by rfl) ?_ ?_
      · intro w' hC; clear hC; go_simp
      simp only [Act.put, List.setIfInBounds_toArray, List.set_cons_zero, List.set_cons_succ]
      refine f_val (.int .i64 q3) (by rfl) ?_ ?_
      · intro w' hC; obtain ⟨y0, y1, y2, y3⟩ := HBI.out w' hC; clear hC; go_simp
      simp only [Act.put, List.setIfInBounds_toArray, List.set_cons_zero, List.set_cons_succ]
      refine f_val (.agg #[.int .i64 4, .string ⟨q1.toArray⟩, .int .i64 q2, .int .i64 q3]) (by rfl) ?_ ?_
      · intro w' hC; clear hC; go_simp
      simp only [Act.put, List.setIfInBounds_toArray, List.set_cons_zero, List.set_cons_succ]
      refine f_made (33) (#[.int .i64 4, .string ⟨q1.toArray⟩, .int .i64 q2, .int .i64 q3]) 1 (by rfl) ?_ ?_
      · intro w' hC; clear hC; go_simp
      intro g1
      simp only [Act.put, List.setIfInBounds_toArray, List.set_cons_zero, List.set_cons_succ]
      refine wpF_end ?_
      intro w6 hC hks
      have HCw6 := Lib.hid hC
      have HM := Lib.hid (Known.at hks 0 rfl)
      clear hC hks
      have hOW := owned_grow HT.out.1 HCw6.out
      obtain ⟨A', c', V2, hrun, hown, hgb⟩ := app_ht (ty := 36) hOW (tombP ⟨q0, q1, q2, q3⟩) HM.out rfl (by omega) (Nat.le_trans HT.out.2.size HCw6.out.size)
      have HRUN := Lib.hid hrun
      have HN := Lib.hid (And.intro hown (ownP_grows (Grows.trans HT.out.2 HCw6.out) (Nat.le_refl _) hOW hgb))
      clear hrun hown hgb hOW
      refine list_execF rfl (exec_appF rfl rfl rfl HRUN.out) ?_
      simp only [Act.put, List.setIfInBounds_toArray, List.set_cons_zero, List.set_cons_succ]
      go_wp2_with (fail)
      go_roundw
      case rel => exact ⟨i + 1, A', c', by omega, by first | rfl | go_num, rfl, Lib.hid ⟨by rw [HTS.out]; exact HN.out.1, HN.out.2⟩⟩
      case measure => simp [intOf]; omega
    · obtain rfl : n1 = i := by omega
      have hTM : (l.take n1).map tombP = l.map tombP := by rw [List.take_of_length_le (by have := HX.out.2.2; omega)]
      have hg5 := grows_alloc wr (.cells #[.int .i64 1, .int .i64 2] 3)
      have hm5 := Whole.made wr 3 #[.int .i64 1, .int .i64 2]
      obtain ⟨V5, hV5⟩ : ∃ V, wr.alloc (.cells #[.int .i64 1, .int .i64 2] 3) = V := ⟨_, rfl⟩
      rw [hV5] at hg5 hm5
      obtain ⟨b5, hb5⟩ : ∃ b, wr.heap.size = b := ⟨_, rfl⟩
      rw [hb5] at hm5
      have hg6 := grows_alloc V5 (.cells #[.slice A n1 c, .slice AW n1 cW] 36)
      have hm6 := Whole.made V5 36 #[.slice A n1 c, .slice AW n1 cW]
      obtain ⟨V6, hV6⟩ : ∃ V, V5.alloc (.cells #[.slice A n1 c, .slice AW n1 cW] 36) = V := ⟨_, rfl⟩
      rw [hV6] at hg6 hm6
      obtain ⟨b6, hb6⟩ : ∃ b, V5.heap.size = b := ⟨_, rfl⟩
      rw [hb6] at hm6
      have hgr : Grows w V6 := Grows.trans HW4.out (Grows.trans HT.out.2 (Grows.trans hg5 hg6))
      have hOT : OwnHt wr w4.heap.size AW n1 cW (l.map tombP) := by rw [← hTM]; exact HT.out.1
      obtain ⟨L2, hL2⟩ : ∃ L, (l.map tombP).map (fun x => ((2 : Int), x)) = L := ⟨_, rfl⟩
      have HF := Lib.hid (show Calls Try.prog 10 #[.slice (some ⟨b5, 0, none⟩) 2 2, .slice (some ⟨b6, 0, none⟩) 2 2] V6 fun e w' => ∃ A' n' c', e = .returned (.tuple #[.slice A' n' c', .bool true]) ∧ OwnPl w' V6.heap.size A' n' c' L2 ∧ Grows V6 w' from by
        have h1 := fold_any (some ⟨b5, 0, none⟩) 2 2 [1, 2] (some ⟨b6, 0, none⟩) 2 2 [(A, n1, c), (AW, n1, cW)] [l, l.map tombP] V6 (ins_lit (xs := [1, 2]) (Grows.whole hg6 hm5) rfl) (lls_two hm6 (HX.out.1.grow hgr) (hOT.hts.grow (Grows.trans hg5 hg6))) (by omega) (by
          rw [manyL_two, List.length_map]
          have := HX.out.2.2
          omega)
        rwa [ok_two HUP.out (tomb_up HUP.out), tombs_all HUP.out, hL2] at h1)
      have H6 := Lib.hid (And.intro hgr (Grows.trans HT.out.2 (Grows.trans hg5 hg6)))
      have HL2 := Lib.hid hL2
      clear hgr hOT hL2 hg5 hm5 hg6 hm6 hTM hlt hi
      go_wp2_with (first | rw [hV5] | rw [hV6] | fail)
      clear hV5 hV6
      refine HF.out.mono ?_
      rintro e w7 ⟨A3, n3, c3, rfl, o3, g7⟩
      have hn3 : n3 = n1 := by
        have h1 := o3.len
        rw [← HL2.out, List.length_map, List.length_map, HX.out.2.2] at h1
        exact h1.symm
      subst hn3
      have HB := Lib.hid o3.rs
      have HW7 := Lib.hid (Grows.trans H6.out.1 g7)
      have HA := Lib.hid ((OwnPl.rs HL4.out).grow (Grows.trans H6.out.2 g7))
      have HLV := Lib.hid (live_any w7 o3.rs (by omega))
      rw [← HL2.out, tombs_dead] at HLV
      clear o3 g7 HF
      go_wp2_with (fail)
      refine HLV.out.mono ?_
      rintro e w8 ⟨A4, n4, c4, rfl, o4, g8⟩
      have hn4 := o4.len
      obtain rfl : n4 = 0 := hn4.symm
      have HW8 := Lib.hid g8
      clear hn4 o4 g8 HLV
      go_wp2_with (fail)
      go_loopw [13] (fun vi wr => ∃ (i : Nat), i ≤ n3 ∧ vi = .int .i64 (i : Int) ∧ Hid (Grows w8 wr)) (fun vi _ => n3 - (intOf vi).toNat)
      case atStart => exact ⟨0, Nat.zero_le _, rfl, Lib.hid (Grows.refl _)⟩
      case round =>
        obtain ⟨i, hi, rfl, HG⟩ := hrel
        by_cases hlt : i < n3
        · obtain ⟨ad, ⟨av, ⟨p0, p1, p2, p3⟩⟩, rfl, hpa, _, hca⟩ := Pls.at HA.out hlt
          obtain ⟨bd, ⟨q0, q1, q2, q3⟩, rfl, hpb, _, hcb⟩ := Hts.at HX.out.1 hlt
          obtain ⟨dd, ⟨dv, ⟨t0, t1, t2, t3⟩⟩, rfl, hpd, _, hcd⟩ := Pls.at HB.out hlt
          obtain rfl : (2 : Int) = dv := by
            have h1 := tombs_at hpb
            rw [HL2.out, hpd] at h1
            injection h1 with h1
            exact (Prod.mk.inj h1).1.symm
          have k0 : (0 : Int) ≤ (i : Int) := by omega
          have k1 : (i : Int) < (n3 : Int) := by omega
          have HI := Lib.hid (And.intro k0 k1)
          have HBI := Lib.hid (fun w' (hg : Grows wr w') => hcb w' (Grows.trans HW7.out (Grows.trans HW8.out (Grows.trans HG.out hg))))
          have HAI := Lib.hid (fun w' (hg : Grows wr w') => hca w' (Grows.trans HW8.out (Grows.trans HG.out hg)))
          have HDI := Lib.hid (fun w' (hg : Grows wr w') => hcd w' (Grows.trans HW8.out (Grows.trans HG.out hg)))
          clear hca hcb hcd
          by_cases hik : i < k
          · obtain ⟨ea1, ea2⟩ : (1 : Int) = av ∧ (⟨q0, q1, q2, q3⟩ : Ht) = ⟨p0, p1, p2, p3⟩ := by
              have h1 := cuts_lt hpb hik
              rw [HL1.out.1, hpa] at h1
              injection h1 with h1
              exact ⟨(Prod.mk.inj h1).1.symm, (Prod.mk.inj h1).2.symm⟩
            injection ea2 with e0 e1 e2 e3
            subst e0 e1 e2 e3
            subst ea1
            have HIK := Lib.hid hik
            clear hpa hpb hpd hik
            dsimp only at HAI HBI HDI
            go_wp2_with (fail)
            refine wp_region_facts (E := Grows) [valFact (.slice (some ad) n3 c1), valFact (.int .i64 (i : Int)), valFact (.pointer (some (ad.add (i * 5)))), valFact (.pointer (some { block := (ad.add (i * 5)).block, off := (ad.add (i * 5)).off + 1 })), valFact (.agg #[.int .i64 q0, .string ⟨q1.toArray⟩, .int .i64 q2, .int .i64 q3]), valFact (.slice (some bd) n3 c), valFact (.int .i64 (i : Int)), valFact (.pointer (some (bd.add (i * 4)))), valFact (.agg #[.int .i64 q0, .string ⟨q1.toArray⟩, .int .i64 q2, .int .i64 q3]), valFact (.bool false), valFact (.bool false), valFact (.slice (some ad) n3 c1), valFact (.int .i64 (i : Int)), valFact (.pointer (some (ad.add (i * 5)))), valFact (.pointer (some (ad.add (i * 5)))), valFact (.int .i64 1), valFact (.bool true), valFact (.int .i64 (i : Int)), valFact (.int .i64 (k : Int)), valFact (.bool true), valFact (.bool false), valFact (.bool false), valFact (.bool false), valFact (.slice (some dd) n3 c3), valFact (.int .i64 (i : Int)), valFact (.pointer (some (dd.add (i * 5)))), valFact (.pointer (some (dd.add (i * 5)))), valFact (.int .i64 2), valFact (.bool false), valFact (.bool false)] (by kernel_rfl) (by kernel_rfl) (fun _ _ _ => Grows.trans) (grows_drew _) ?_
            refine f_val (.slice (some ad) n3 c1) (by rfl) ?_ ?_
            · intro w' hC; clear hC; go_simp
            simp only [Act.put, List.setIfInBounds_toArray, List.set_cons_zero, List.set_cons_succ]
            refine f_val (.int .i64 (i : Int)) (by rfl) ?_ ?_
            · intro w' hC; clear hC; go_simp
            simp only [Act.put, List.setIfInBounds_toArray, List.set_cons_zero, List.set_cons_succ]
            refine f_val (.pointer (some (ad.add (i * 5)))) (by rfl) ?_ ?_
            · intro w' hC; have k0 := HI.out; clear hC; go_simp
            simp only [Act.put, List.setIfInBounds_toArray, List.set_cons_zero, List.set_cons_succ]
            refine f_val (.pointer (some { block := (ad.add (i * 5)).block, off := (ad.add (i * 5)).off + 1 })) (by rfl) ?_ ?_
            · intro w' hC; clear hC; go_simp
            simp only [Act.put, List.setIfInBounds_toArray, List.set_cons_zero, List.set_cons_succ]
            refine f_val (.agg #[.int .i64 q0, .string ⟨q1.toArray⟩, .int .i64 q2, .int .i64 q3]) (by rfl) ?_ ?_
            · intro w' hC; obtain ⟨z0, z1, z2, z3, z4⟩ := HAI.out w' hC; clear hC; go_simp
            simp only [Act.put, List.setIfInBounds_toArray, List.set_cons_zero, List.set_cons_succ]
            refine f_val (.slice (some bd) n3 c) (by rfl) ?_ ?_
            · intro w' hC; clear hC; go_simp
            simp only [Act.put, List.setIfInBounds_toArray, List.set_cons_zero, List.set_cons_succ]
            refine f_val (.int .i64 (i : Int)) (by rfl) ?_ ?_
            · intro w' hC; clear hC; go_simp
            simp only [Act.put, List.setIfInBounds_toArray, List.set_cons_zero, List.set_cons_succ]
            refine f_val (.pointer (some (bd.add (i * 4)))) (by rfl) ?_ ?_
            · intro w' hC; have k0 := HI.out; clear hC; go_simp
            simp only [Act.put, List.setIfInBounds_toArray, List.set_cons_zero, List.set_cons_succ]
            refine f_val (.agg #[.int .i64 q0, .string ⟨q1.toArray⟩, .int .i64 q2, .int .i64 q3]) (by rfl) ?_ ?_
            · intro w' hC; obtain ⟨y0, y1, y2, y3⟩ := HBI.out w' hC; clear hC; go_simp
            simp only [Act.put, List.setIfInBounds_toArray, List.set_cons_zero, List.set_cons_succ]
            refine f_val (.bool false) (by rfl) ?_ ?_
            · intro w' hC; clear hC; go_simp
            simp only [Act.put, List.setIfInBounds_toArray, List.set_cons_zero, List.set_cons_succ]
            refine f_val (.bool false) (by rfl) ?_ ?_
            · intro w' hC; clear hC; go_simp
            simp only [Act.put, List.setIfInBounds_toArray, List.set_cons_zero, List.set_cons_succ]
            refine f_val (.slice (some ad) n3 c1) (by rfl) ?_ ?_
            · intro w' hC; clear hC; go_simp
            simp only [Act.put, List.setIfInBounds_toArray, List.set_cons_zero, List.set_cons_succ]
            refine f_val (.int .i64 (i : Int)) (by rfl) ?_ ?_
            · intro w' hC; clear hC; go_simp
            simp only [Act.put, List.setIfInBounds_toArray, List.set_cons_zero, List.set_cons_succ]
            refine f_val (.pointer (some (ad.add (i * 5)))) (by rfl) ?_ ?_
            · intro w' hC; have k0 := HI.out; clear hC; go_simp
            simp only [Act.put, List.setIfInBounds_toArray, List.set_cons_zero, List.set_cons_succ]
            refine f_val (.pointer (some (ad.add (i * 5)))) (by rfl) ?_ ?_
            · intro w' hC; clear hC; go_simp
            simp only [Act.put, List.setIfInBounds_toArray, List.set_cons_zero, List.set_cons_succ]
            refine f_val (.int .i64 1) (by rfl) ?_ ?_
            · intro w' hC; obtain ⟨z0, z1, z2, z3, z4⟩ := HAI.out w' hC; clear hC; go_simp
            simp only [Act.put, List.setIfInBounds_toArray, List.set_cons_zero, List.set_cons_succ]
            refine f_val (.bool true) (by rfl) ?_ ?_
            · intro w' hC; clear hC; go_simp
            simp only [Act.put, List.setIfInBounds_toArray, List.set_cons_zero, List.set_cons_succ]
            refine f_val (.int .i64 (i : Int)) (by rfl) ?_ ?_
            · intro w' hC; clear hC; go_simp
            simp only [Act.put, List.setIfInBounds_toArray, List.set_cons_zero, List.set_cons_succ]
            refine f_val (.int .i64 (k : Int)) (by rfl) ?_ ?_
            · intro w' hC; clear hC; go_simp
            simp only [Act.put, List.setIfInBounds_toArray, List.set_cons_zero, List.set_cons_succ]
            refine f_val (.bool true) (by rfl) ?_ ?_
            · intro w' hC; have k0 := HIK.out; clear hC; go_simp
            simp only [Act.put, List.setIfInBounds_toArray, List.set_cons_zero, List.set_cons_succ]
            refine f_val (.bool false) (by rfl) ?_ ?_
            · intro w' hC; clear hC; go_simp
            simp only [Act.put, List.setIfInBounds_toArray, List.set_cons_zero, List.set_cons_succ]
            refine f_val (.bool false) (by rfl) ?_ ?_
            · intro w' hC; clear hC; go_simp
            simp only [Act.put, List.setIfInBounds_toArray, List.set_cons_zero, List.set_cons_succ]
            refine f_val (.bool false) (by rfl) ?_ ?_
            · intro w' hC; clear hC; go_simp
            simp only [Act.put, List.setIfInBounds_toArray, List.set_cons_zero, List.set_cons_succ]
            refine f_val (.slice (some dd) n3 c3) (by rfl) ?_ ?_
            · intro w' hC; clear hC; go_simp
            simp only [Act.put, List.setIfInBounds_toArray, List.set_cons_zero, List.set_cons_succ]
            refine f_val (.int .i64 (i : Int)) (by rfl) ?_ ?_
            · intro w' hC; clear hC; go_simp
            simp only [Act.put, List.setIfInBounds_toArray, List.set_cons_zero, List.set_cons_succ]
            refine f_val (.pointer (some (dd.add (i * 5)))) (by rfl) ?_ ?_
            · intro w' hC; have k0 := HI.out; clear hC; go_simp
            simp only [Act.put, List.setIfInBounds_toArray, List.set_cons_zero, List.set_cons_succ]
            refine f_val (.pointer (some (dd.add (i * 5)))) (by rfl) ?_ ?_
            · intro w' hC; clear hC; go_simp
            simp only [Act.put, List.setIfInBounds_toArray, List.set_cons_zero, List.set_cons_succ]
            refine f_val (.int .i64 2) (by rfl) ?_ ?_
            · intro w' hC; obtain ⟨x0, x1, x2, x3, x4⟩ := HDI.out w' hC; clear hC; go_simp
            simp only [Act.put, List.setIfInBounds_toArray, List.set_cons_zero, List.set_cons_succ]
            refine f_val (.bool false) (by rfl) ?_ ?_
            · intro w' hC; clear hC; go_simp
            simp only [Act.put, List.setIfInBounds_toArray, List.set_cons_zero, List.set_cons_succ]
            refine f_val (.bool false) (by rfl) ?_ ?_
            · intro w' hC; clear hC; go_simp
            simp only [Act.put, List.setIfInBounds_toArray, List.set_cons_zero, List.set_cons_succ]
            refine wpF_end ?_
            intro w9 hC hks
            have HCw9 := Lib.hid hC
            clear hC hks
            go_wp2_with (fail)
            go_roundw
            case rel => exact ⟨i + 1, by omega, by first | rfl | go_num, Lib.hid (Grows.trans HG.out HCw9.out)⟩
            case measure => simp [intOf]; omega
          · obtain ⟨ea1, ea2⟩ : (2 : Int) = av ∧ (⟨q0, q1, q2, q3⟩ : Ht) = ⟨p0, p1, p2, p3⟩ := by
              have h1 := cuts_ge hpb hik
              rw [HL1.out.1, hpa] at h1
              injection h1 with h1
              exact ⟨(Prod.mk.inj h1).1.symm, (Prod.mk.inj h1).2.symm⟩
            injection ea2 with e0 e1 e2 e3
            subst e0 e1 e2 e3
            subst ea1
            have HIK := Lib.hid hik
            clear hpa hpb hpd hik
            dsimp only at HAI HBI HDI
            go_wp2_with (fail)
            refine wp_region_facts (E := Grows) [valFact (.slice (some ad) n3 c1), valFact (.int .i64 (i : Int)), valFact (.pointer (some (ad.add (i * 5)))), valFact (.pointer (some { block := (ad.add (i * 5)).block, off := (ad.add (i * 5)).off + 1 })), valFact (.agg #[.int .i64 q0, .string ⟨q1.toArray⟩, .int .i64 q2, .int .i64 q3]), valFact (.slice (some bd) n3 c), valFact (.int .i64 (i : Int)), valFact (.pointer (some (bd.add (i * 4)))), valFact (.agg #[.int .i64 q0, .string ⟨q1.toArray⟩, .int .i64 q2, .int .i64 q3]), valFact (.bool false), valFact (.bool false), valFact (.slice (some ad) n3 c1), valFact (.int .i64 (i : Int)), valFact (.pointer (some (ad.add (i * 5)))), valFact (.pointer (some (ad.add (i * 5)))), valFact (.int .i64 2), valFact (.bool false), valFact (.int .i64 (i : Int)), valFact (.int .i64 (k : Int)), valFact (.bool false), valFact (.bool false), valFact (.bool false), valFact (.bool false), valFact (.slice (some dd) n3 c3), valFact (.int .i64 (i : Int)), valFact (.pointer (some (dd.add (i * 5)))), valFact (.pointer (some (dd.add (i * 5)))), valFact (.int .i64 2), valFact (.bool false), valFact (.bool false)] (by kernel_rfl) (by kernel_rfl) (fun _ _ _ => Grows.trans) (grows_drew _) ?_
            refine f_val (.slice (some ad) n3 c1) (by rfl) ?_ ?_
            · intro w' hC; clear hC; go_simp
            simp only [Act.put, List.setIfInBounds_toArray, List.set_cons_zero, List.set_cons_succ]
            refine f_val (.int .i64 (i : Int)) (by rfl) ?_ ?_
            · intro w' hC; clear hC; go_simp
            simp only [Act.put, List.setIfInBounds_toArray, List.set_cons_zero, List.set_cons_succ]
            refine f_val (.pointer (some (ad.add (i * 5)))) (by rfl) ?_ ?_
            · intro w' hC; have k0 := HI.out; clear hC; go_simp
            simp only [Act.put, List.setIfInBounds_toArray, List.set_cons_zero, List.set_cons_succ]
            refine f_val (.pointer (some { block := (ad.add (i * 5)).block, off := (ad.add (i * 5)).off + 1 })) (by rfl) ?_ ?_
            · intro w' hC; clear hC; go_simp
            simp only [Act.put, List.setIfInBounds_toArray, List.set_cons_zero, List.set_cons_succ]
            refine f_val (.agg #[.int .i64 q0, .string ⟨q1.toArray⟩, .int .i64 q2, .int .i64 q3]) (by rfl) ?_ ?_
            · intro w' hC; obtain ⟨z0, z1, z2, z3, z4⟩ := HAI.out w' hC; clear hC; go_simp
            simp only [Act.put, List.setIfInBounds_toArray, List.set_cons_zero, List.set_cons_succ]
            refine f_val (.slice (some bd) n3 c) (by rfl) ?_ ?_
            · intro w' hC; clear hC; go_simp
            simp only [Act.put, List.setIfInBounds_toArray, List.set_cons_zero, List.set_cons_succ]
            refine f_val (.int .i64 (i : Int)) (by rfl) ?_ ?_
            · intro w' hC; clear hC; go_simp
            simp only [Act.put, List.setIfInBounds_toArray, List.set_cons_zero, List.set_cons_succ]
            refine f_val (.pointer (some (bd.add (i * 4)))) (by rfl) ?_ ?_
            · intro w' hC; have k0 := HI.out; clear hC; go_simp
            simp only [Act.put, List.setIfInBounds_toArray, List.set_cons_zero, List.set_cons_succ]
            refine f_val (.agg #[.int .i64 q0, .string ⟨q1.toArray⟩, .int .i64 q2, .int .i64 q3]) (by rfl) ?_ ?_
            · intro w' hC; obtain ⟨y0, y1, y2, y3⟩ := HBI.out w' hC; clear hC; go_simp
            simp only [Act.put, List.setIfInBounds_toArray, List.set_cons_zero, List.set_cons_succ]
            refine f_val (.bool false) (by rfl) ?_ ?_
            · intro w' hC; clear hC; go_simp
            simp only [Act.put, List.setIfInBounds_toArray, List.set_cons_zero, List.set_cons_succ]
            refine f_val (.bool false) (by rfl) ?_ ?_
            · intro w' hC; clear hC; go_simp
            simp only [Act.put, List.setIfInBounds_toArray, List.set_cons_zero, List.set_cons_succ]
            refine f_val (.slice (some ad) n3 c1) (by rfl) ?_ ?_
            · intro w' hC; clear hC; go_simp
            simp only [Act.put, List.setIfInBounds_toArray, List.set_cons_zero, List.set_cons_succ]
            refine f_val (.int .i64 (i : Int)) (by rfl) ?_ ?_
            · intro w' hC; clear hC; go_simp
            simp only [Act.put, List.setIfInBounds_toArray, List.set_cons_zero, List.set_cons_succ]
            refine f_val (.pointer (some (ad.add (i * 5)))) (by rfl) ?_ ?_
            · intro w' hC; have k0 := HI.out; clear hC; go_simp
            simp only [Act.put, List.setIfInBounds_toArray, List.set_cons_zero, List.set_cons_succ]
            refine f_val (.pointer (some (ad.add (i * 5)))) (by rfl) ?_ ?_
            · intro w' hC; clear hC; go_simp
            simp only [Act.put, List.setIfInBounds_toArray, List.set_cons_zero, List.set_cons_succ]
            refine f_val (.int .i64 2) (by rfl) ?_ ?_
            · intro w' hC; obtain ⟨z0, z1, z2, z3, z4⟩ := HAI.out w' hC; clear hC; go_simp
            simp only [Act.put, List.setIfInBounds_toArray, List.set_cons_zero, List.set_cons_succ]
            refine f_val (.bool false) (by rfl) ?_ ?_
            · intro w' hC; clear hC; go_simp
            simp only [Act.put, List.setIfInBounds_toArray, List.set_cons_zero, List.set_cons_succ]
            refine f_val (.int .i64 (i : Int)) (by rfl) ?_ ?_
            · intro w' hC; clear hC; go_simp
            simp only [Act.put, List.setIfInBounds_toArray, List.set_cons_zero, List.set_cons_succ]
            refine f_val (.int .i64 (k : Int)) (by rfl) ?_ ?_
            · intro w' hC; clear hC; go_simp
            simp only [Act.put, List.setIfInBounds_toArray, List.set_cons_zero, List.set_cons_succ]
            refine f_val (.bool false) (by rfl) ?_ ?_
            · intro w' hC; have k0 := HIK.out; clear hC; go_simp
            simp only [Act.put, List.setIfInBounds_toArray, List.set_cons_zero, List.set_cons_succ]
            refine f_val (.bool false) (by rfl) ?_ ?_
            · intro w' hC; clear hC; go_simp
            simp only [Act.put, List.setIfInBounds_toArray, List.set_cons_zero, List.set_cons_succ]
            refine f_val (.bool false) (by rfl) ?_ ?_
            · intro w' hC; clear hC; go_simp
            simp only [Act.put, List.setIfInBounds_toArray, List.set_cons_zero, List.set_cons_succ]
            refine f_val (.bool false) (by rfl) ?_ ?_
            · intro w' hC; clear hC; go_simp
            simp only [Act.put, List.setIfInBounds_toArray, List.set_cons_zero, List.set_cons_succ]
            refine f_val (.slice (some dd) n3 c3) (by rfl) ?_ ?_
            · intro w' hC; clear hC; go_simp
            simp only [Act.put, List.setIfInBounds_toArray, List.set_cons_zero, List.set_cons_succ]
            refine f_val (.int .i64 (i : Int)) (by rfl) ?_ ?_
            · intro w' hC; clear hC; go_simp
            simp only [Act.put, List.setIfInBounds_toArray, List.set_cons_zero, List.set_cons_succ]
            refine f_val (.pointer (some (dd.add (i * 5)))) (by rfl) ?_ ?_
            · intro w' hC; have k0 := HI.out; clear hC; go_simp
            simp only [Act.put, List.setIfInBounds_toArray, List.set_cons_zero, List.set_cons_succ]
            refine f_val (.pointer (some (dd.add (i * 5)))) (by rfl) ?_ ?_
            · intro w' hC; clear hC; go_simp
            simp only [Act.put, List.setIfInBounds_toArray, List.set_cons_zero, List.set_cons_succ]
            refine f_val (.int .i64 2) (by rfl) ?_ ?_
            · intro w' hC; obtain ⟨x0, x1, x2, x3, x4⟩ := HDI.out w' hC; clear hC; go_simp
            simp only [Act.put, List.setIfInBounds_toArray, List.set_cons_zero, List.set_cons_succ]
            refine f_val (.bool false) (by rfl) ?_ ?_
            · intro w' hC; clear hC; go_simp
            simp only [Act.put, List.setIfInBounds_toArray, List.set_cons_zero, List.set_cons_succ]
            refine f_val (.bool false) (by rfl) ?_ ?_
            · intro w' hC; clear hC; go_simp
            simp only [Act.put, List.setIfInBounds_toArray, List.set_cons_zero, List.set_cons_succ]
            refine wpF_end ?_
            intro w9 hC hks
            have HCw9 := Lib.hid hC
            clear hC hks
            go_wp2_with (fail)
            go_roundw
            case rel => exact ⟨i + 1, by omega, by first | rfl | go_num, Lib.hid (Grows.trans HG.out HCw9.out)⟩
            case measure => simp [intOf]; omega
        · obtain rfl : n3 = i := by omega
          go_wp2_with (fail)
          go_ret
          exact ⟨rfl, Grows.trans HW7.out (Grows.trans HW8.out HG.out)⟩

set_option maxRecDepth 100000 in
theorem foldApart_lifted (os : Os) (started : os.Started) (H : Type) (enc : TypeId × Value → H) :
    ReturnsInHanded {} Try.checked os 7 .any (Rows.foldApartSpec.pre6 enc Try.prog Try.f7 Rows.foldApartRow.domain false) (Rows.foldApartSpec.post enc Try.prog Try.f7 false true false false) := by
  refine lift_law (C := Try.checked) H enc own started (by kernel_rfl) Try.func7
    (ChangeSpec.witness6 (enc := enc) (C := Try.checked) false ⟨#[], #[.slice none 0 0, .int .u8 0], []⟩ 16 (by kernel_rfl) (by kernel_rfl) (by kernel_rfl) (by kernel_rfl))
    laidOut (of_readable (by kernel_rfl)) rfl Try.underlying4 rfl (fun ds hd => ?_) (fun W base args ds p hval hA hsz => ?_)
  · match ds, hd with
    | [d1, d2], _ => rfl
  · rw [Try.params7] at hA hval hsz
    obtain ⟨v0, vs0, d0, ds0, p0, q0, hargs, rfl, rfl, h0, r0⟩ := trodAll_cons hA
    obtain ⟨v1, vs1, d1, ds1, p1, q1, rfl, rfl, rfl, h1, r1⟩ := trodAll_cons r0
    obtain ⟨rfl, rfl, rfl⟩ := trodAll_nil r1
    obtain rfl : args = #[v0, v1] := by cases args; simp_all
    obtain ⟨A0, n0, c0, xs0, rfl, hx0, hb0⟩ := open_htsF (hval 0 36 v0 rfl rfl) h0 hsz (j := 0) rfl rfl
    obtain ⟨a1, rfl, _, _, w1⟩ := open_int Try.underlying5 (hval 1 5 v1 rfl rfl) h1
    have b1 := bounds_u8 w1
    exact foldApart_law W A0 n0 c0 xs0 hx0 hb0 a1 (by omega)

theorem foldApart_over : Rows.foldApartRow.holds Try.pinned (OpenSpec.ofChange Rows.foldApartSpec) :=
  OpenClaim.holds_of_wide 7 Try.f7 rfl rfl rfl rfl rfl rfl rfl ⟨rfl, rfl, rfl, rfl, rfl⟩ rfl rfl rfl rfl rfl (by kernel_rfl) Try.func7 (by kernel_rfl)
    (of_decide_eq_true (by kernel_rfl)) (by unfold Func.isWrapper; first | (rw [if_pos (by decide +kernel)]; kernel_rfl) | (rw [if_neg (by decide +kernel)]; exact ⟨rfl, rfl⟩))
    (fun os started H enc _ => foldApart_lifted os started H enc)
theorem foldApart_holds : Rows.FoldApartSaid := foldApart_over
end Go.Proofs.Ytnnkioekjobbmaa