/-
  Statement ManBack: a right manifest is got of its bytes as it was; what is got of any bytes is right, and has them. Any manifest, any bytes, no condition.
-/
import Derived.Test.YtdkpbphgaenlnaaMU
import Derived.Test.YtdkpbphgaenlnaaMI
import Derived.Test.YtdkpbphgaenlnaaCame
import Derived.ProofKit
import Derived.ChangeOld
namespace Go.Proofs.Ytdkpbphgaenlnaa
open Go.ChangeShapes Go.WideShapes Go.ChangeAt Go.RowKit
set_option linter.unusedSimpArgs false
set_option linter.unusedVariables false
attribute [local irreducible] wpF
set_option maxHeartbeats 16000000 in
set_option maxRecDepth 100000 in
theorem manBack_law (w : World) (A0 : Option Addr) (n0 c0 : Nat) (x : Mn) (hx : MnIn w A0 n0 c0 x) (A1 : Option Addr) (n1 c1 : Nat) (bs : List UInt8) (hcb : Came w A1 n1 c1 bs) :
    Calls Try.prog 4 #[.agg #[.slice A0 n0 c0, .int .i64 x.next], .slice A1 n1 c1] w fun e w' => e = .returned (.bool true) ∧ Below w.heap.size w w' := by
  have hg1 := grows_alloc w (.cells #[.slice A0 n0 c0, .int .i64 x.next] 24)
  have hm1 := Whole.made w 24 #[.slice A0 n0 c0, .int .i64 x.next]
  obtain ⟨w1, hw1⟩ : ∃ y, w.alloc (.cells #[.slice A0 n0 c0, .int .i64 x.next] 24) = y := ⟨_, rfl⟩
  rw [hw1] at hg1 hm1
  have HX := Lib.hid (hx.grow hg1)
  have HM := Lib.hid hm1
  have HG := Lib.hid hg1
  have HS := Lib.hid (hcb.sl.grow hg1)
  obtain ⟨nx, hnx⟩ : ∃ nx, x.next = nx := ⟨_, rfl⟩
  rw [hnx] at HM hw1 ⊢
  have HNX := Lib.hid hnx
  have HLN := Lib.hid (show x.segs.length = n0 from hx.segs.len)
  clear hx hg1 hm1 hnx hcb
  go_enter Try.func4, Try.ntmps4
  go_wp2_with (fail)
  refine (head10_any w1).mono ?_
  rintro e w2 ⟨rfl, hb2⟩
  have hb2 : Grows w1 w2 := hb2
  have HG2 := Lib.hid (HG.out.trans hb2)
  have hm2 := hb2.whole HM.out
  have q0 := hm2.cell 0
  have q1 := hm2.cell 1
  simp only [List.getElem?_toArray, List.getElem?_cons_zero, List.getElem?_cons_succ] at q0 q1
  have HM2 := Lib.hid hm2
  have HX2 := Lib.hid (HX.out.grow hb2)
  have HS2 := Lib.hid (HS.out.grow hb2)
  clear hb2 hw1 hm2 HX HS HM
  by_cases h30 : n0 ≤ 3000
  rotate_left 1
  · have h30' : (n0 : Int) > 3000 := by omega
    go_wp2_with (fail)
    go_ret
    exact ⟨rfl, HG2.out⟩
  have h30' : ¬ ((n0 : Int) > 3000) := by omega
  by_cases h20 : n1 ≤ 20000
  rotate_left 1
  · have h20' : (n1 : Int) > 20000 := by omega
    go_wp2_with (fail)
    go_ret
    exact ⟨rfl, HG2.out⟩
  have h20' : ¬ ((n1 : Int) > 20000) := by omega
  have hpt := mputs_any w2 A0 n0 c0 x HX2.out
  rw [HNX.out] at hpt
  have HPU := Lib.hid hpt
  clear hpt
  go_wp2_with (fail)
  refine HPU.out.mono ?_
  clear HPU
  rintro e w3 ⟨A3, k3, c3, rfl, ho3, hg3⟩
  have hg3 : Grows w2 w3 := hg3
  have HG3 := Lib.hid (HG2.out.trans hg3)
  have hm3 := hg3.whole HM2.out
  have r0 := hm3.cell 0
  have r1 := hm3.cell 1
  simp only [List.getElem?_toArray, List.getElem?_cons_zero, List.getElem?_cons_succ] at r0 r1
  have HM3 := Lib.hid hm3
  have HX3 := Lib.hid (HX2.out.grow hg3)
  have HS3 := Lib.hid (HS2.out.grow hg3)
  have HP3 := Lib.hid (Sl.owned ho3)
  have hrt := mright_any w3 A0 n0 c0 x HX3.out
  obtain ⟨r, hr⟩ : ∃ r, rightM x = r := ⟨_, rfl⟩
  rw [HNX.out, hr] at hrt
  have HRT := Lib.hid hrt
  have HR := Lib.hid hr
  have hk3 : r = decide (0 < k3) := by
    rw [← HP3.out.len, ← hr]
    cases h : rightM x with
    | false => rw [putM_ill h]; rfl
    | true => rw [putM_length h]; exact (decide_eq_true (by omega)).symm
  clear hg3 hm3 ho3 hrt hr q0 q1 HM2 HX2 HS2
  have hmain : ∀ (w4 : World) (HG4 : Hid (Grows w w4)) (HS4 : Hid (Sl w4 A1 n1 c1 bs)), True := fun _ _ _ => trivial
  clear hmain
  cases r with
  | false =>
    obtain rfl : k3 = 0 := by have := of_decide_eq_false hk3.symm; omega
    clear hk3
    go_wp2_with (fail)
    refine HRT.out.mono ?_
    rintro e w4 ⟨rfl, hg4⟩
    have HG4 := Lib.hid (HG3.out.trans hg4)
    have HS4 := Lib.hid (HS3.out.grow hg4)
    clear hg4 r0 r1
    go_wp2_with (fail)
    obtain ⟨o, ho⟩ : ∃ o, getM bs = o := ⟨_, rfl⟩
    have hge := mget_any w4 A1 n1 c1 bs HS4.out (by omega)
    rw [ho] at hge
    refine hge.mono ?_
    clear hge
    rintro e w5 ⟨A9, k9, c9, rfl, ho9, hg⟩
    obtain ⟨ny, hny⟩ : ∃ z, (mnOf o).next = z := ⟨_, rfl⟩
    obtain ⟨io, hio⟩ : ∃ z, o.isSome = z := ⟨_, rfl⟩
    rw [hny, hio]
    have ga := grows_alloc w5 (.cells #[.slice A9 k9 c9, .int .i64 ny] 24)
    have hm9 := Whole.made w5 24 #[.slice A9 k9 c9, .int .i64 ny]
    have HO := Lib.hid (And.intro ho (And.intro hny hio))
    have HG9 := Lib.hid (HG4.out.trans (Grows.trans hg ga))
    have HS9 := Lib.hid (HS4.out.grow (Grows.trans hg ga))
    have HY9 := Lib.hid (Ints.owned (owned_from (owned_grow ho9 ga) (Nat.zero_le _)))
    have HM9 := Lib.hid hm9
    have q0 := hm9.cell 0
    have q1 := hm9.cell 1
    simp only [List.getElem?_toArray, List.getElem?_cons_zero, List.getElem?_cons_succ] at q0 q1
    clear ho ho9 hg hny hio ga hm9
    cases io with
    | false =>
      obtain rfl : o = none := by have := HO.out.2.2; cases o with | none => rfl | some _ => cases this
      have hk9 := HY9.out.len
      have hsm := msame_any _ A9 k9 c9 Mn.none none 0 0 Mn.none HY9.out ⟨Row.nil _ _ _, Nat.le_refl _, fun _ => rfl⟩ (by simp [mnOf, Mn.none] at hk9; omega)
      rw [decide_eq_true rfl, show Mn.none.next = ny from HO.out.2.1] at hsm
      have hny0 : ny = 0 := HO.out.2.1.symm
      have HSM := Lib.hid hsm
      clear hk9 hsm
      subst hny0
      go_wp2_with (fail)
      refine HSM.out.mono ?_
      rintro e w6 ⟨rfl, hg⟩
      have HG10 := Lib.hid (HG9.out.trans hg)
      clear hg
      go_wp2_with (fail)
      go_ret
      exact ⟨rfl, HG10.out⟩
    | true =>
      obtain ⟨y, rfl⟩ : ∃ y, o = some y := by have := HO.out.2.2; cases o with | none => cases this | some y => exact ⟨y, rfl⟩
      obtain ⟨hyr, hyp⟩ := put_getM HO.out.1
      have hye : MnIn (w5.alloc (.cells #[.slice A9 k9 c9, .int .i64 ny] 24)) A9 k9 c9 y := ⟨HY9.out, fun n hn => by have := (rightM_nums hyr).2 n hn; unfold In64; omega, by have := (rightM_nums hyr).1; unfold In64; omega⟩
      obtain ⟨w9, hw9⟩ : ∃ z, w5.alloc (.cells #[.slice A9 k9 c9, .int .i64 ny] 24) = z := ⟨_, rfl⟩
      rw [hw9] at hye HG9 HS9 HM9 q0 q1
      have hyn : y.next = ny := HO.out.2.1
      have HRT := Lib.hid (fun w' (hC : Grows w9 w') => by
        have h := mright_any w' A9 k9 c9 y (hye.grow hC)
        rw [hyn, hyr] at h
        exact h)
      have HPT := Lib.hid (fun w' (hC : Grows w9 w') => by
        have h := mputs_any w' A9 k9 c9 y (hye.grow hC)
        rw [hyn, hyp] at h
        exact h)
      have HC := Lib.hid (show ∀ w', Grows w9 w' → w'.cell? { block := w5.heap.size, off := 0 } = some (.slice A9 k9 c9) ∧ w'.cell? { block := w5.heap.size, off := 1 } = some (.int .i64 ny) from fun w' hC => ⟨(hC.whole HM9.out).cell 0, (hC.whole HM9.out).cell 1⟩)
      clear hyr hyp hye hyn q0 q1
      go_wp2_with (fail)
      clear hw9
      refine wp_region_facts (E := Grows) [valFact (.bool true), valFact (.bool true), valFact (.agg #[.slice A9 k9 c9, .int .i64 ny]), valFact (.bool true), valFact (.bool true), valFact (.bool true), valFact (.agg #[.slice A9 k9 c9, .int .i64 ny]), ownFact w9 (bs), valFact (.string ⟨bs.toArray⟩), valFact (.slice A1 n1 c1), valFact (.string ⟨bs.toArray⟩), valFact (.bool true), valFact (.bool true), valFact (.bool true)] (by kernel_rfl) (by kernel_rfl) (fun _ _ _ => Grows.trans) (grows_drew _) ?_
      refine f_val (.bool true) (by rfl) ?_ ?_
      · intro w' hC; clear hC; first | (go_simp; done)
      simp only [Act.put, List.setIfInBounds_toArray, List.set_cons_zero, List.set_cons_succ]
      refine f_val (.bool true) (by rfl) ?_ ?_
      · intro w' hC; clear hC; first | (go_simp; done)
      simp only [Act.put, List.setIfInBounds_toArray, List.set_cons_zero, List.set_cons_succ]
      refine f_val (.agg #[.slice A9 k9 c9, .int .i64 ny]) (by rfl) ?_ ?_
      · intro w' hC; obtain ⟨z0, z1⟩ := HC.out w' hC; clear hC; first | (go_simp; done)
      simp only [Act.put, List.setIfInBounds_toArray, List.set_cons_zero, List.set_cons_succ]
      refine f_call 12 #[.agg #[.slice A9 k9 c9, .int .i64 ny]] (.bool true) (by rfl) (by intro w' hC; clear hC; go_simp) ?_ ?_
      · intro w' hC hks; exact (HRT.out w' hC).mono fun e w'' hh => ⟨hh.1, hh.2⟩
      simp only [Act.put, List.setIfInBounds_toArray, List.set_cons_zero, List.set_cons_succ]
      refine f_val (.bool true) (by rfl) ?_ ?_
      · intro w' hC; clear hC; first | (go_simp; done)
      simp only [Act.put, List.setIfInBounds_toArray, List.set_cons_zero, List.set_cons_succ]
      refine f_val (.bool true) (by rfl) ?_ ?_
      · intro w' hC; clear hC; first | (go_simp; done)
      simp only [Act.put, List.setIfInBounds_toArray, List.set_cons_zero, List.set_cons_succ]
      refine f_val (.agg #[.slice A9 k9 c9, .int .i64 ny]) (by rfl) ?_ ?_
      · intro w' hC; obtain ⟨z0, z1⟩ := HC.out w' hC; clear hC; first | (go_simp; done)
      simp only [Act.put, List.setIfInBounds_toArray, List.set_cons_zero, List.set_cons_succ]
      refine f_own (bs) 14 #[.agg #[.slice A9 k9 c9, .int .i64 ny]] (by rfl) (by intro w' hC; clear hC; go_simp) ?_ ?_
      · intro w' hC hks; exact HPT.out w' hC
      intro PA pc
      simp only [Act.put, List.setIfInBounds_toArray, List.set_cons_zero, List.set_cons_succ]
      refine f_known (.string ⟨bs.toArray⟩) (by rfl) ?_ ?_
      · intro w' hC hks; have hs := run_string (Sl.owned (Known.get hks 0 rfl rfl)); clear hC hks; first | (go_simp; done)
      simp only [Act.put, List.setIfInBounds_toArray, List.set_cons_zero, List.set_cons_succ]
      refine f_val (.slice A1 n1 c1) (by rfl) ?_ ?_
      · intro w' hC; clear hC; first | (go_simp; done)
      simp only [Act.put, List.setIfInBounds_toArray, List.set_cons_zero, List.set_cons_succ]
      refine f_val (.string ⟨bs.toArray⟩) (by rfl) ?_ ?_
      · intro w' hC; have hs := run_string (HS9.out.grow hC); clear hC; first | (go_simp; done)
      simp only [Act.put, List.setIfInBounds_toArray, List.set_cons_zero, List.set_cons_succ]
      refine f_val (.bool true) (by rfl) ?_ ?_
      · intro w' hC; clear hC; first | (go_simp; done)
      simp only [Act.put, List.setIfInBounds_toArray, List.set_cons_zero, List.set_cons_succ]
      refine f_val (.bool true) (by rfl) ?_ ?_
      · intro w' hC; clear hC; first | (go_simp; done)
      simp only [Act.put, List.setIfInBounds_toArray, List.set_cons_zero, List.set_cons_succ]
      refine f_val (.bool true) (by rfl) ?_ ?_
      · intro w' hC; clear hC; first | (go_simp; done)
      simp only [Act.put, List.setIfInBounds_toArray, List.set_cons_zero, List.set_cons_succ]
      refine wpF_end ?_
      intro w10 hC hks
      have HCw10 := Lib.hid hC
      clear hC hks
      go_wp2_with (fail)
      go_ret
      exact ⟨rfl, HG9.out.trans HCw10.out⟩
  | true =>
    have hk0 : (k3 : Int) > 0 := by have := of_decide_eq_true hk3.symm; omega
    have hkd : decide (0 < k3) = true := hk3.symm
    have hk1 : 0 < k3 := of_decide_eq_true hkd
    clear hk3
    go_wp2_with (fail)
    refine HRT.out.mono ?_
    rintro e w4 ⟨rfl, hg4⟩
    have HG4a := Lib.hid (HG3.out.trans hg4)
    have HS4a := Lib.hid (HS3.out.grow hg4)
    have HM4a := Lib.hid (hg4.whole HM3.out)
    have HX4a := Lib.hid (HX3.out.grow hg4)
    have HP4a := Lib.hid (HP3.out.grow hg4)
    clear hg4 r0 r1
    go_wp2_with (fail)
    have hge := mget_any w4 A3 k3 c3 (putM x) HP4a.out (by rw [← HP4a.out.len]; have := putM_small x; omega)
    rw [get_putM HR.out] at hge
    refine hge.mono ?_
    clear hge
    rintro e w5 ⟨A5, k5, c5, rfl, ho, hg⟩
    rw [show (mnOf (some x)).next = nx from HNX.out, show (some x).isSome = true from rfl]
    have ga := grows_alloc w5 (.cells #[.slice A5 k5 c5, .int .i64 nx] 24)
    have hgg := Grows.trans hg ga
    have HG6 := Lib.hid (HG4a.out.trans hgg)
    have HS6 := Lib.hid (HS4a.out.grow hgg)
    have hm6 := hgg.whole HM4a.out
    have HX6 := Lib.hid (HX4a.out.grow hgg)
    have HY6 := Lib.hid (show Ints (w5.alloc (.cells #[.slice A5 k5 c5, .int .i64 nx] 24)) A5 k5 c5 x.segs from Ints.owned (owned_from (owned_grow ho ga) (Nat.zero_le _)))
    have q0 := hm6.cell 0
    have q1 := hm6.cell 1
    simp only [List.getElem?_toArray, List.getElem?_cons_zero, List.getElem?_cons_succ] at q0 q1
    have hsm := msame_any _ A5 k5 c5 x A0 n0 c0 x HY6.out HX6.out.segs (by rw [← HY6.out.len]; have := HLN.out; omega)
    rw [decide_eq_true rfl, HNX.out] at hsm
    have HSM := Lib.hid hsm
    clear ho hg ga hgg hm6 hsm
    go_wp2_with (fail)
    refine HSM.out.mono ?_
    rintro e w4 ⟨rfl, hg⟩
    have HG4 := Lib.hid (HG6.out.trans hg)
    have HS4 := Lib.hid (HS6.out.grow hg)
    clear hg q0 q1
    go_wp2_with (fail)
    obtain ⟨o, ho⟩ : ∃ o, getM bs = o := ⟨_, rfl⟩
    have hge := mget_any w4 A1 n1 c1 bs HS4.out (by omega)
    rw [ho] at hge
    refine hge.mono ?_
    clear hge
    rintro e w5 ⟨A9, k9, c9, rfl, ho9, hg⟩
    obtain ⟨ny, hny⟩ : ∃ z, (mnOf o).next = z := ⟨_, rfl⟩
    obtain ⟨io, hio⟩ : ∃ z, o.isSome = z := ⟨_, rfl⟩
    rw [hny, hio]
    have ga := grows_alloc w5 (.cells #[.slice A9 k9 c9, .int .i64 ny] 24)
    have hm9 := Whole.made w5 24 #[.slice A9 k9 c9, .int .i64 ny]
    have HO := Lib.hid (And.intro ho (And.intro hny hio))
    have HG9 := Lib.hid (HG4.out.trans (Grows.trans hg ga))
    have HS9 := Lib.hid (HS4.out.grow (Grows.trans hg ga))
    have HY9 := Lib.hid (Ints.owned (owned_from (owned_grow ho9 ga) (Nat.zero_le _)))
    have HM9 := Lib.hid hm9
    have q0 := hm9.cell 0
    have q1 := hm9.cell 1
    simp only [List.getElem?_toArray, List.getElem?_cons_zero, List.getElem?_cons_succ] at q0 q1
    clear ho ho9 hg hny hio ga hm9
    cases io with
    | false =>
      obtain rfl : o = none := by have := HO.out.2.2; cases o with | none => rfl | some _ => cases this
      have hk9 := HY9.out.len
      have hsm := msame_any _ A9 k9 c9 Mn.none none 0 0 Mn.none HY9.out ⟨Row.nil _ _ _, Nat.le_refl _, fun _ => rfl⟩ (by simp [mnOf, Mn.none] at hk9; omega)
      rw [decide_eq_true rfl, show Mn.none.next = ny from HO.out.2.1] at hsm
      have hny0 : ny = 0 := HO.out.2.1.symm
      have HSM := Lib.hid hsm
      clear hk9 hsm
      subst hny0
      go_wp2_with (fail)
      refine HSM.out.mono ?_
      rintro e w6 ⟨rfl, hg⟩
      have HG10 := Lib.hid (HG9.out.trans hg)
      clear hg
      go_wp2_with (fail)
      go_ret
      exact ⟨rfl, HG10.out⟩
    | true =>
      obtain ⟨y, rfl⟩ : ∃ y, o = some y := by have := HO.out.2.2; cases o with | none => cases this | some y => exact ⟨y, rfl⟩
      obtain ⟨hyr, hyp⟩ := put_getM HO.out.1
      have hye : MnIn (w5.alloc (.cells #[.slice A9 k9 c9, .int .i64 ny] 24)) A9 k9 c9 y := ⟨HY9.out, fun n hn => by have := (rightM_nums hyr).2 n hn; unfold In64; omega, by have := (rightM_nums hyr).1; unfold In64; omega⟩
      obtain ⟨w9, hw9⟩ : ∃ z, w5.alloc (.cells #[.slice A9 k9 c9, .int .i64 ny] 24) = z := ⟨_, rfl⟩
      rw [hw9] at hye HG9 HS9 HM9 q0 q1
      have hyn : y.next = ny := HO.out.2.1
      have HRT := Lib.hid (fun w' (hC : Grows w9 w') => by
        have h := mright_any w' A9 k9 c9 y (hye.grow hC)
        rw [hyn, hyr] at h
        exact h)
      have HPT := Lib.hid (fun w' (hC : Grows w9 w') => by
        have h := mputs_any w' A9 k9 c9 y (hye.grow hC)
        rw [hyn, hyp] at h
        exact h)
      have HC := Lib.hid (show ∀ w', Grows w9 w' → w'.cell? { block := w5.heap.size, off := 0 } = some (.slice A9 k9 c9) ∧ w'.cell? { block := w5.heap.size, off := 1 } = some (.int .i64 ny) from fun w' hC => ⟨(hC.whole HM9.out).cell 0, (hC.whole HM9.out).cell 1⟩)
      clear hyr hyp hye hyn q0 q1
      go_wp2_with (fail)
      clear hw9
      refine wp_region_facts (E := Grows) [valFact (.bool true), valFact (.bool true), valFact (.agg #[.slice A9 k9 c9, .int .i64 ny]), valFact (.bool true), valFact (.bool true), valFact (.bool true), valFact (.agg #[.slice A9 k9 c9, .int .i64 ny]), ownFact w9 (bs), valFact (.string ⟨bs.toArray⟩), valFact (.slice A1 n1 c1), valFact (.string ⟨bs.toArray⟩), valFact (.bool true), valFact (.bool true), valFact (.bool true)] (by kernel_rfl) (by kernel_rfl) (fun _ _ _ => Grows.trans) (grows_drew _) ?_
      refine f_val (.bool true) (by rfl) ?_ ?_
      · intro w' hC; clear hC; first | (go_simp; done)
      simp only [Act.put, List.setIfInBounds_toArray, List.set_cons_zero, List.set_cons_succ]
      refine f_val (.bool true) (by rfl) ?_ ?_
      · intro w' hC; clear hC; first | (go_simp; done)
      simp only [Act.put, List.setIfInBounds_toArray, List.set_cons_zero, List.set_cons_succ]
      refine f_val (.agg #[.slice A9 k9 c9, .int .i64 ny]) (by rfl) ?_ ?_
      · intro w' hC; obtain ⟨z0, z1⟩ := HC.out w' hC; clear hC; first | (go_simp; done)
      simp only [Act.put, List.setIfInBounds_toArray, List.set_cons_zero, List.set_cons_succ]
      refine f_call 12 #[.agg #[.slice A9 k9 c9, .int .i64 ny]] (.bool true) (by rfl) (by intro w' hC; clear hC; go_simp) ?_ ?_
      · intro w' hC hks; exact (HRT.out w' hC).mono fun e w'' hh => ⟨hh.1, hh.2⟩
      simp only [Act.put, List.setIfInBounds_toArray, List.set_cons_zero, List.set_cons_succ]
      refine f_val (.bool true) (by rfl) ?_ ?_
      · intro w' hC; clear hC; first | (go_simp; done)
      simp only [Act.put, List.setIfInBounds_toArray, List.set_cons_zero, List.set_cons_succ]
      refine f_val (.bool true) (by rfl) ?_ ?_
      · intro w' hC; clear hC; first | (go_simp; done)
      simp only [Act.put, List.setIfInBounds_toArray, List.set_cons_zero, List.set_cons_succ]
      refine f_val (.agg #[.slice A9 k9 c9, .int .i64 ny]) (by rfl) ?_ ?_
      · intro w' hC; obtain ⟨z0, z1⟩ := HC.out w' hC; clear hC; first | (go_simp; done)
      simp only [Act.put, List.setIfInBounds_toArray, List.set_cons_zero, List.set_cons_succ]
      refine f_own (bs) 14 #[.agg #[.slice A9 k9 c9, .int .i64 ny]] (by rfl) (by intro w' hC; clear hC; go_simp) ?_ ?_
      · intro w' hC hks; exact HPT.out w' hC
      intro PA pc
      simp only [Act.put, List.setIfInBounds_toArray, List.set_cons_zero, List.set_cons_succ]
      refine f_known (.string ⟨bs.toArray⟩) (by rfl) ?_ ?_
      · intro w' hC hks; have hs := run_string (Sl.owned (Known.get hks 0 rfl rfl)); clear hC hks; first | (go_simp; done)
      simp only [Act.put, List.setIfInBounds_toArray, List.set_cons_zero, List.set_cons_succ]
      refine f_val (.slice A1 n1 c1) (by rfl) ?_ ?_
      · intro w' hC; clear hC; first | (go_simp; done)
      simp only [Act.put, List.setIfInBounds_toArray, List.set_cons_zero, List.set_cons_succ]
      refine f_val (.string ⟨bs.toArray⟩) (by rfl) ?_ ?_
      · intro w' hC; have hs := run_string (HS9.out.grow hC); clear hC; first | (go_simp; done)
      simp only [Act.put, List.setIfInBounds_toArray, List.set_cons_zero, List.set_cons_succ]
      refine f_val (.bool true) (by rfl) ?_ ?_
      · intro w' hC; clear hC; first | (go_simp; done)
      simp only [Act.put, List.setIfInBounds_toArray, List.set_cons_zero, List.set_cons_succ]
      refine f_val (.bool true) (by rfl) ?_ ?_
      · intro w' hC; clear hC; first | (go_simp; done)
      simp only [Act.put, List.setIfInBounds_toArray, List.set_cons_zero, List.set_cons_succ]
      refine f_val (.bool true) (by rfl) ?_ ?_
      · intro w' hC; clear hC; first | (go_simp; done)
      simp only [Act.put, List.setIfInBounds_toArray, List.set_cons_zero, List.set_cons_succ]
      refine wpF_end ?_
      intro w10 hC hks
      have HCw10 := Lib.hid hC
      clear hC hks
      go_wp2_with (fail)
      go_ret
      exact ⟨rfl, HG9.out.trans HCw10.out⟩

set_option maxRecDepth 100000 in
theorem manBack_lifted (os : Os) (started : os.Started) (H : Type) (enc : TypeId × Value → H) :
    ReturnsInHanded {} Try.checked os 4 .any (Rows.manBackSpec.pre6 enc Try.prog Try.f4 Rows.manBackRow.domain false) (Rows.manBackSpec.post enc Try.prog Try.f4 false true false false) := by
  refine lift_law (C := Try.checked) H enc own started (by kernel_rfl) Try.func4
    (ChangeSpec.witness6 (enc := enc) (C := Try.checked) false ⟨#[], #[.agg #[.slice none 0 0, .int .i64 0], .slice none 0 0], []⟩ 16 (by kernel_rfl) (by kernel_rfl) (by kernel_rfl) (by kernel_rfl))
    laidOut (of_readable (by kernel_rfl)) rfl Try.underlying4 rfl (fun ds hd => ?_) (fun W base args ds p hval hA hsz => ?_)
  · match ds, hd with
    | [d1, d2], _ => rfl
  · rw [Try.params4] at hA hval hsz
    obtain ⟨v0, vs0, d0, ds0, p0, q0, hargs, rfl, rfl, h0, r0⟩ := trodAll_cons hA
    obtain ⟨v1, vs1, d1, ds1, p1, q1, rfl, rfl, rfl, h1, r1⟩ := trodAll_cons r0
    obtain ⟨rfl, rfl, rfl⟩ := trodAll_nil r1
    obtain rfl : args = #[v0, v1] := by cases args; simp_all
    obtain ⟨A0, n0, c0, xs0, rfl, hx0⟩ := open_man (hval 0 24 v0 rfl rfl) h0
    obtain ⟨A1, n1, c1, xs1, rfl, hx1⟩ := open_bytes Try.underlying25 Try.underlying5 (by kernel_rfl) (by kernel_rfl) (hval 1 25 v1 rfl rfl) h1 hsz (j := 1) rfl rfl
    exact manBack_law W A0 n0 c0 xs0 hx0 A1 n1 c1 xs1 hx1

theorem manBack_over : Rows.manBackRow.holds Try.pinned (OpenSpec.ofChange Rows.manBackSpec) :=
  OpenClaim.holds_of_wide 4 Try.f4 rfl rfl rfl rfl rfl rfl rfl ⟨rfl, rfl, rfl, rfl, rfl⟩ rfl rfl rfl rfl rfl (by kernel_rfl) Try.func4 (by kernel_rfl)
    (of_decide_eq_true (by kernel_rfl)) (by unfold Func.isWrapper; first | (rw [if_pos (by decide +kernel)]; kernel_rfl) | (rw [if_neg (by decide +kernel)]; exact ⟨rfl, rfl⟩))
    (fun os started H enc _ => manBack_lifted os started H enc)
theorem manBack_holds : Rows.ManBackSaid := manBack_over
end Go.Proofs.Ytdkpbphgaenlnaa
