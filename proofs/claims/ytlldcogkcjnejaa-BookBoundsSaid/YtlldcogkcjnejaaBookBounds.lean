/-
  souterrainlaw12.BookBounds: of any calls (any list of at most 200) just those are refused that are below 0, too much, or of no segment's number, and what is refused changes nothing.
-/
import Derived.Test.YtlldcogkcjnejaaBkOps
import Derived.Test.YtlldcogkcjnejaaBkMore
import Derived.ProofKit
import Derived.ChangeOld
namespace Go.Proofs.Ytlldcogkcjnejaa
open Go.Maps Go.Shelf Go.Sort Go.ChangeShapes Go.WideShapes Go.ChangeAt Go.RowKit
set_option linter.unusedSimpArgs false
set_option linter.unusedVariables false
attribute [local irreducible] wpF
attribute [local irreducible] Go.wpQuiet

set_option maxRecDepth 100000 in
set_option maxHeartbeats 8000000 in
theorem bookBounds_law (w : World) (A : Option Addr) (n c : Nat) (os : List O12) (hx : Ops12 w A n c os) :
    Calls Try.prog 8 #[.slice A n c] w fun e w' => e = .returned (.bool true) ∧ Below w.heap.size w w' := by
  have HX := Lib.hid hx
  clear hx
  go_enter Try.func8, Try.ntmps8
  go_wp2_with (fail)
  refine (head12_any w).mono ?_
  rintro e w0 ⟨rfl, hg0⟩
  have HG0 := Lib.hid hg0
  clear hg0
  go_wp2_with (fail)
  refine (new_any w0).mono ?_
  rintro e w1 ⟨pb, bb, rfl, hb1, hg1, hp1, hq1⟩
  have H1 := Lib.hid (And.intro hb1 (Grows.trans HG0.out hg1))
  have HLO := Lib.hid (show w.heap.size ≤ bb from by have := HG0.out.size; omega)
  clear hb1 hg1 hp1 hq1
  by_cases hn : 200 < n
  · go_wp2_with (fail)
    go_ret
    exact ⟨rfl, H1.out.2⟩
  go_wp2_with (fail)
  go_loopw [5, 6, 7, 8, 9, 10] (fun vi _ _ _ _ _ wr => ∃ (i nb : Nat) (l : List Us), i ≤ n ∧ vi = .int .i64 (i : Int) ∧ Hid (BkAt wr pb bb nb l) ∧ Hid (nb ≤ i) ∧ Hid (Grows w wr)) (fun vi _ _ _ _ _ _ => n - (intOf vi).toNat)
  case atStart => exact ⟨0, 0, [], Nat.zero_le _, rfl, Lib.hid H1.out.1, Lib.hid (Nat.le_refl _), Lib.hid H1.out.2⟩
  case round =>
    obtain ⟨i, nb, l, hi, rfl, HBB, HNB, HG⟩ := hrel
    by_cases hlt : i < n
    · have HNN := Lib.hid (show nb ≤ i ∧ i < 200 from by have := HNB.out; omega)
      clear hn
      obtain ⟨ad, ⟨qw, qs, qn, ql⟩, hA, hos, hbl, hok, hcs⟩ := Ops12.at (HX.out.grow HG.out) hlt
      subst hA
      obtain ⟨c0, c1, c2, c3⟩ := hcs wr (Grows.refl _)
      dsimp only at c0 c1 c2 c3
      have k0 : (0 : Int) ≤ (i : Int) := by omega
      have k1 : (i : Int) < (n : Int) := by omega
      obtain ⟨W1, hW1⟩ : ∃ W, wr.alloc (.cells #[.int .i64 qw, .int .i64 qs, .int .i64 qn, .bool ql] 29) = W := ⟨_, rfl⟩
      have hgW : Grows wr W1 := hW1 ▸ grows_alloc _ _
      have hmW : Whole W1 wr.heap.size 29 #[.int .i64 qw, .int .i64 qs, .int .i64 qn, .bool ql] := by rw [← hW1]; exact Whole.made _ _ _
      have HW := Lib.hid (And.intro hgW hmW)
      have HOS := Lib.hid (And.intro hos hok)
      have qq := HW.out.2
      have d0 := qq.cell 0
      have d1 := qq.cell 1
      have d2 := qq.cell 2
      have d3 := qq.cell 3
      simp only [List.getElem?_toArray, List.getElem?_cons_zero, List.getElem?_cons_succ] at d0 d1 d2 d3
      clear qq
      clear hos hok hbl hcs hgW hmW
      have HAL := Lib.hid (all_use (HBB.out.grow HW.out.1) (by have := HNN.out; omega))
      go_wp2_with (first | rw [hW1] | fail)
      refine HAL.out.mono ?_
      rintro e w3 ⟨WA, wc, rfl, ho3, hg3⟩
      have H3 := Lib.hid (show BkAt w3 pb bb nb l ∧ Grows w w3 ∧ Grows W1 w3 ∧ Uss w3 WA l.length wc l from ⟨(HBB.out.grow HW.out.1).grow hg3, Grows.trans (Grows.trans HG.out HW.out.1) hg3, hg3, Rs.owned usL rfl ho3⟩)
      clear ho3 hg3 d0 d1 d2 d3 c0 c1 c2 c3
      have qq := H3.out.2.2.1.whole HW.out.2
      have d0 := qq.cell 0
      have d1 := qq.cell 1
      have d2 := qq.cell 2
      have d3 := qq.cell 3
      simp only [List.getElem?_toArray, List.getElem?_cons_zero, List.getElem?_cons_succ] at d0 d1 d2 d3
      clear qq
      by_cases hw3 : qw = 3
      · subst hw3
        obtain ⟨hh, hhe⟩ : ∃ z, hasU qs l = z := ⟨_, rfl⟩
        obtain ⟨⟨u0, u1, u2⟩, hue⟩ : ∃ z, useOf qs l = z := ⟨_, rfl⟩
        have HOF := Lib.hid (show Calls Try.prog 18 #[.pointer (some ⟨pb, 0, none⟩), .int .i64 qs] w3 fun e w' => e = .returned (.tuple #[.agg #[.int .i64 u0, .int .i64 u1, .int .i64 u2], .bool hh]) ∧ Grows w3 w' from by
          have h0 := of_use H3.out.1 (k := qs) HOS.out.2.seg.1 HOS.out.2.seg.2
          rw [hhe, hue] at h0
          exact h0)
        have HKB := Lib.hid (show killB qs qn l = (hh && decide (0 ≤ qn ∧ qn ≤ u2)) from by unfold killB; rw [hhe, hue])
        clear hhe hue
        go_wp2_with (first | rw [hW1] | fail)
        refine HOF.out.mono ?_
        rintro e w4 ⟨rfl, hg4⟩
        obtain ⟨W4, hW4⟩ : ∃ W, w4.alloc (.cells #[.int .i64 u0, .int .i64 u1, .int .i64 u2] 34) = W := ⟨_, rfl⟩
        have HG4 := Lib.hid hg4
        have HGW4 := Lib.hid (show Grows w3 W4 from Grows.trans hg4 (hW4 ▸ grows_alloc _ _))
        have HU4 := Lib.hid (show Whole W4 w4.heap.size 34 #[.int .i64 u0, .int .i64 u1, .int .i64 u2] from by rw [← hW4]; exact Whole.made _ _ _)
        clear hg4 d0 d1 d2 d3
        have qq := HGW4.out.whole (H3.out.2.2.1.whole HW.out.2)
        have d0 := qq.cell 0
        have d1 := qq.cell 1
        have d2 := qq.cell 2
        have d3 := qq.cell 3
        simp only [List.getElem?_toArray, List.getElem?_cons_zero, List.getElem?_cons_succ] at d0 d1 d2 d3
        clear qq
        cases hh
        · skip
          have hr : killB qs qn l = false := by
            rw [HKB.out]; rfl
          have HCL := Lib.hid (show ∀ W, BkAt W pb bb nb l → Calls Try.prog 12 #[.pointer (some ⟨pb, 0, none⟩), .int .i64 qs, .int .i64 qn] W (BkTo W pb bb nb (l) false) from fun W hW => by
            have h0 := kill_use hW (by have := HNN.out; omega) (k := qs) HOS.out.2.seg.1 HOS.out.2.seg.2 qn
            rw [hr] at h0
            rw [show killU qs qn l = l from by unfold killU; rw [hr, if_neg (by decide)]] at h0
            exact h0)
          clear hr
          go_wp2_with (first | rw [hW1] | rw [hW4] | fail)
          refine (HCL.out W4 (H3.out.1.grow HGW4.out)).mono ?_
          rintro e w5 ⟨⟨rfl, hb, hs⟩, hgr⟩
          have hg5 := hgr rfl
          have HF := Lib.hid (show BkAt w5 pb bb (nb + 1) l ∧ Grows w w5 ∧ (Whole w5 wr.heap.size 29 #[.int .i64 3, .int .i64 qs, .int .i64 qn, .bool ql]) ∧ Uss w5 WA l.length wc l from
            ⟨hb, Grows.trans (Grows.trans H3.out.2.1 HGW4.out) hg5, (Grows.trans (Grows.trans H3.out.2.2.1 HGW4.out) hg5).whole HW.out.2, H3.out.2.2.2.grow (Grows.trans HGW4.out hg5)⟩)
          have HU5 := Lib.hid (hg5.whole HU4.out)
          clear hb hs hgr hg5
          clear d0 d1 d2 d3 hW1
          have qq := HF.out.2.2.1
          have d0 := qq.cell 0
          have d1 := qq.cell 1
          have d2 := qq.cell 2
          have d3 := qq.cell 3
          simp only [List.getElem?_toArray, List.getElem?_cons_zero, List.getElem?_cons_succ] at d0 d1 d2 d3
          clear qq
          have uu := HU5.out.cell 2
          simp only [List.getElem?_toArray, List.getElem?_cons_zero, List.getElem?_cons_succ] at uu
          have HAL2 := Lib.hid (all_use HF.out.1 (by have := HNN.out; omega))
          go_wp2_with (fail)
          refine HAL2.out.mono ?_
          rintro e w6 ⟨A6, c6, rfl, ho6, hg6⟩
          have HSA := Lib.hid (show Calls Try.prog 22 #[.slice A6 l.length c6, .slice WA l.length wc] w6 fun e w' => e = .returned (.bool true) ∧ Grows w6 w' from by
            have h0 := same_uses A6 l.length c6 WA l.length wc l l w6 (Rs.owned usL rfl ho6) (HF.out.2.2.2.grow hg6) (by have := HF.out.1.ok.few; have := HNN.out; omega)
            rw [decide_eq_true rfl] at h0
            exact h0)
          have H6 := Lib.hid hg6
          obtain ⟨m, hm⟩ : ∃ m, l.length = m := ⟨_, rfl⟩
          rw [hm] at HSA ⊢
          clear ho6 hg6 hm
          go_wp2_with (fail)
          refine HSA.out.mono ?_
          rintro e w7 ⟨rfl, hg7⟩
          have H7 := Lib.hid hg7
          clear hg7
          go_wp2_with (fail)
          have hgz := Grows.trans H6.out H7.out
          go_roundw
          case rel => exact ⟨i + 1, nb + 1, _, by omega, by go_num, Lib.hid (HF.out.1.grow hgz), Lib.hid (by have := HNN.out; omega), Lib.hid (Grows.trans HF.out.2.1 hgz)⟩
          case measure => simp [intOf]; omega
        by_cases q1 : qn < 0
        · have q1' : ¬ 0 ≤ qn := by omega
          have hr : killB qs qn l = false := by
            rw [HKB.out, Bool.true_and]; exact decide_eq_false (by omega)
          have HCL := Lib.hid (show ∀ W, BkAt W pb bb nb l → Calls Try.prog 12 #[.pointer (some ⟨pb, 0, none⟩), .int .i64 qs, .int .i64 qn] W (BkTo W pb bb nb (l) false) from fun W hW => by
            have h0 := kill_use hW (by have := HNN.out; omega) (k := qs) HOS.out.2.seg.1 HOS.out.2.seg.2 qn
            rw [hr] at h0
            rw [show killU qs qn l = l from by unfold killU; rw [hr, if_neg (by decide)]] at h0
            exact h0)
          clear hr
          go_wp2_with (first | rw [hW1] | rw [hW4] | fail)
          refine (HCL.out W4 (H3.out.1.grow HGW4.out)).mono ?_
          rintro e w5 ⟨⟨rfl, hb, hs⟩, hgr⟩
          have hg5 := hgr rfl
          have HF := Lib.hid (show BkAt w5 pb bb (nb + 1) l ∧ Grows w w5 ∧ (Whole w5 wr.heap.size 29 #[.int .i64 3, .int .i64 qs, .int .i64 qn, .bool ql]) ∧ Uss w5 WA l.length wc l from
            ⟨hb, Grows.trans (Grows.trans H3.out.2.1 HGW4.out) hg5, (Grows.trans (Grows.trans H3.out.2.2.1 HGW4.out) hg5).whole HW.out.2, H3.out.2.2.2.grow (Grows.trans HGW4.out hg5)⟩)
          have HU5 := Lib.hid (hg5.whole HU4.out)
          clear hb hs hgr hg5
          clear d0 d1 d2 d3 hW1
          have qq := HF.out.2.2.1
          have d0 := qq.cell 0
          have d1 := qq.cell 1
          have d2 := qq.cell 2
          have d3 := qq.cell 3
          simp only [List.getElem?_toArray, List.getElem?_cons_zero, List.getElem?_cons_succ] at d0 d1 d2 d3
          clear qq
          have uu := HU5.out.cell 2
          simp only [List.getElem?_toArray, List.getElem?_cons_zero, List.getElem?_cons_succ] at uu
          have HAL2 := Lib.hid (all_use HF.out.1 (by have := HNN.out; omega))
          go_wp2_with (fail)
          refine HAL2.out.mono ?_
          rintro e w6 ⟨A6, c6, rfl, ho6, hg6⟩
          have HSA := Lib.hid (show Calls Try.prog 22 #[.slice A6 l.length c6, .slice WA l.length wc] w6 fun e w' => e = .returned (.bool true) ∧ Grows w6 w' from by
            have h0 := same_uses A6 l.length c6 WA l.length wc l l w6 (Rs.owned usL rfl ho6) (HF.out.2.2.2.grow hg6) (by have := HF.out.1.ok.few; have := HNN.out; omega)
            rw [decide_eq_true rfl] at h0
            exact h0)
          have H6 := Lib.hid hg6
          obtain ⟨m, hm⟩ : ∃ m, l.length = m := ⟨_, rfl⟩
          rw [hm] at HSA ⊢
          clear ho6 hg6 hm
          go_wp2_with (fail)
          refine HSA.out.mono ?_
          rintro e w7 ⟨rfl, hg7⟩
          have H7 := Lib.hid hg7
          clear hg7
          go_wp2_with (fail)
          have hgz := Grows.trans H6.out H7.out
          go_roundw
          case rel => exact ⟨i + 1, nb + 1, _, by omega, by go_num, Lib.hid (HF.out.1.grow hgz), Lib.hid (by have := HNN.out; omega), Lib.hid (Grows.trans HF.out.2.1 hgz)⟩
          case measure => simp [intOf]; omega
        have q1' : 0 ≤ qn := by omega
        by_cases q2 : u2 < qn
        · have q2' : ¬ qn ≤ u2 := by omega
          have hr : killB qs qn l = false := by
            rw [HKB.out, Bool.true_and]; exact decide_eq_false (by omega)
          have HCL := Lib.hid (show ∀ W, BkAt W pb bb nb l → Calls Try.prog 12 #[.pointer (some ⟨pb, 0, none⟩), .int .i64 qs, .int .i64 qn] W (BkTo W pb bb nb (l) false) from fun W hW => by
            have h0 := kill_use hW (by have := HNN.out; omega) (k := qs) HOS.out.2.seg.1 HOS.out.2.seg.2 qn
            rw [hr] at h0
            rw [show killU qs qn l = l from by unfold killU; rw [hr, if_neg (by decide)]] at h0
            exact h0)
          clear hr
          go_wp2_with (first | rw [hW1] | rw [hW4] | fail)
          refine (HCL.out W4 (H3.out.1.grow HGW4.out)).mono ?_
          rintro e w5 ⟨⟨rfl, hb, hs⟩, hgr⟩
          have hg5 := hgr rfl
          have HF := Lib.hid (show BkAt w5 pb bb (nb + 1) l ∧ Grows w w5 ∧ (Whole w5 wr.heap.size 29 #[.int .i64 3, .int .i64 qs, .int .i64 qn, .bool ql]) ∧ Uss w5 WA l.length wc l from
            ⟨hb, Grows.trans (Grows.trans H3.out.2.1 HGW4.out) hg5, (Grows.trans (Grows.trans H3.out.2.2.1 HGW4.out) hg5).whole HW.out.2, H3.out.2.2.2.grow (Grows.trans HGW4.out hg5)⟩)
          have HU5 := Lib.hid (hg5.whole HU4.out)
          clear hb hs hgr hg5
          clear d0 d1 d2 d3 hW1
          have qq := HF.out.2.2.1
          have d0 := qq.cell 0
          have d1 := qq.cell 1
          have d2 := qq.cell 2
          have d3 := qq.cell 3
          simp only [List.getElem?_toArray, List.getElem?_cons_zero, List.getElem?_cons_succ] at d0 d1 d2 d3
          clear qq
          have uu := HU5.out.cell 2
          simp only [List.getElem?_toArray, List.getElem?_cons_zero, List.getElem?_cons_succ] at uu
          have HAL2 := Lib.hid (all_use HF.out.1 (by have := HNN.out; omega))
          go_wp2_with (fail)
          refine HAL2.out.mono ?_
          rintro e w6 ⟨A6, c6, rfl, ho6, hg6⟩
          have HSA := Lib.hid (show Calls Try.prog 22 #[.slice A6 l.length c6, .slice WA l.length wc] w6 fun e w' => e = .returned (.bool true) ∧ Grows w6 w' from by
            have h0 := same_uses A6 l.length c6 WA l.length wc l l w6 (Rs.owned usL rfl ho6) (HF.out.2.2.2.grow hg6) (by have := HF.out.1.ok.few; have := HNN.out; omega)
            rw [decide_eq_true rfl] at h0
            exact h0)
          have H6 := Lib.hid hg6
          obtain ⟨m, hm⟩ : ∃ m, l.length = m := ⟨_, rfl⟩
          rw [hm] at HSA ⊢
          clear ho6 hg6 hm
          go_wp2_with (fail)
          refine HSA.out.mono ?_
          rintro e w7 ⟨rfl, hg7⟩
          have H7 := Lib.hid hg7
          clear hg7
          go_wp2_with (fail)
          have hgz := Grows.trans H6.out H7.out
          go_roundw
          case rel => exact ⟨i + 1, nb + 1, _, by omega, by go_num, Lib.hid (HF.out.1.grow hgz), Lib.hid (by have := HNN.out; omega), Lib.hid (Grows.trans HF.out.2.1 hgz)⟩
          case measure => simp [intOf]; omega
        have q2' : qn ≤ u2 := by omega
        have hr : killB qs qn l = true := by
          rw [HKB.out, Bool.true_and]; exact decide_eq_true (by omega)
        have HCL := Lib.hid (show ∀ W, BkAt W pb bb nb l → Calls Try.prog 12 #[.pointer (some ⟨pb, 0, none⟩), .int .i64 qs, .int .i64 qn] W (BkTo W pb bb nb (killU qs qn l) true) from fun W hW => by
          have h0 := kill_use hW (by have := HNN.out; omega) (k := qs) HOS.out.2.seg.1 HOS.out.2.seg.2 qn
          rw [hr] at h0
          exact h0)
        clear hr
        go_wp2_with (first | rw [hW1] | rw [hW4] | fail)
        refine (HCL.out W4 (H3.out.1.grow HGW4.out)).mono ?_
        rintro e w5 ⟨⟨rfl, hb, hs⟩, hgr⟩
        have HF := Lib.hid (show BkAt w5 pb bb (nb + 1) (killU qs qn l) ∧ Grows w w5 ∧ (Whole w5 wr.heap.size 29 #[.int .i64 3, .int .i64 qs, .int .i64 qn, .bool ql]) from
          ⟨hb, grow_book (Grows.trans H3.out.2.1 HGW4.out) hs HLO.out, (hs.same _ (Nat.lt_of_lt_of_le HW.out.2.lt (Nat.le_trans H3.out.2.2.1.size HGW4.out.size)) (by have := HBB.out.ltb; omega)).trans (HGW4.out.whole (H3.out.2.2.1.whole HW.out.2))⟩)
        have HU5 := Lib.hid (show Whole w5 w4.heap.size 34 #[.int .i64 u0, .int .i64 u1, .int .i64 u2] from (hs.same _ HU4.out.lt (by have := (H3.out.1.ltb); have := HG4.out.size; omega)).trans HU4.out)
        clear hb hs hgr
        clear d0 d1 d2 d3 hW1
        have qq := HF.out.2.2
        have d0 := qq.cell 0
        have d1 := qq.cell 1
        have d2 := qq.cell 2
        have d3 := qq.cell 3
        simp only [List.getElem?_toArray, List.getElem?_cons_zero, List.getElem?_cons_succ] at d0 d1 d2 d3
        clear qq
        have uu := HU5.out.cell 2
        simp only [List.getElem?_toArray, List.getElem?_cons_zero, List.getElem?_cons_succ] at uu
        go_wp2_with (fail)
        go_roundw
        case rel => exact ⟨i + 1, nb + 1, _, by omega, by go_num, Lib.hid HF.out.1, Lib.hid (by have := HNN.out; omega), Lib.hid HF.out.2.1⟩
        case measure => simp [intOf]; omega
      have g3 : (qw == 3) = false := by rw [beq_eq_false_iff_ne]; exact hw3
      by_cases hw2 : qw < 3
      · skip
        have HPB := Lib.hid (show putB qs qn l = decide (0 ≤ qs ∧ qs ≤ 99999999 ∧ 0 ≤ qn ∧ qn ≤ 1099511627776 ∧ (useOf qs l).all + qn ≤ 1125899906842624) from rfl)
        by_cases q0 : 0 ≤ qs
        rotate_left 1
        · skip
          have hr : putB qs qn l = false := by
            rw [HPB.out]; exact decide_eq_false (by omega)
          have HCL := Lib.hid (show ∀ W, BkAt W pb bb nb l → Calls Try.prog 16 #[.pointer (some ⟨pb, 0, none⟩), .int .i64 qs, .int .i64 qn, .bool ql] W (BkTo W pb bb nb (l) false) from fun W hW => by
            have h0 := put_use hW (by have := HNN.out; omega) (k := qs) HOS.out.2.seg.1 HOS.out.2.seg.2 qn ql
            rw [hr] at h0
            rw [show putU qs qn ql l = l from by unfold putU; rw [hr, if_neg (by decide)]] at h0
            exact h0)
          clear hr
          go_wp2_with (first | rw [hW1] | rw [hW4] | fail)
          refine (HCL.out w3 (H3.out.1.grow (Grows.refl _))).mono ?_
          rintro e w5 ⟨⟨rfl, hb, hs⟩, hgr⟩
          have hg5 := hgr rfl
          have HF := Lib.hid (show BkAt w5 pb bb (nb + 1) l ∧ Grows w w5 ∧ (Whole w5 wr.heap.size 29 #[.int .i64 qw, .int .i64 qs, .int .i64 qn, .bool ql]) ∧ Uss w5 WA l.length wc l from
            ⟨hb, Grows.trans (Grows.trans H3.out.2.1 (Grows.refl _)) hg5, (Grows.trans (Grows.trans H3.out.2.2.1 (Grows.refl _)) hg5).whole HW.out.2, H3.out.2.2.2.grow (Grows.trans (Grows.refl _) hg5)⟩)
          clear hb hs hgr hg5
          clear d0 d1 d2 d3 hW1
          have qq := HF.out.2.2.1
          have d0 := qq.cell 0
          have d1 := qq.cell 1
          have d2 := qq.cell 2
          have d3 := qq.cell 3
          simp only [List.getElem?_toArray, List.getElem?_cons_zero, List.getElem?_cons_succ] at d0 d1 d2 d3
          clear qq
          have HAL2 := Lib.hid (all_use HF.out.1 (by have := HNN.out; omega))
          go_wp2_with (fail)
          refine HAL2.out.mono ?_
          rintro e w6 ⟨A6, c6, rfl, ho6, hg6⟩
          have HSA := Lib.hid (show Calls Try.prog 22 #[.slice A6 l.length c6, .slice WA l.length wc] w6 fun e w' => e = .returned (.bool true) ∧ Grows w6 w' from by
            have h0 := same_uses A6 l.length c6 WA l.length wc l l w6 (Rs.owned usL rfl ho6) (HF.out.2.2.2.grow hg6) (by have := HF.out.1.ok.few; have := HNN.out; omega)
            rw [decide_eq_true rfl] at h0
            exact h0)
          have H6 := Lib.hid hg6
          obtain ⟨m, hm⟩ : ∃ m, l.length = m := ⟨_, rfl⟩
          rw [hm] at HSA ⊢
          clear ho6 hg6 hm
          go_wp2_with (fail)
          refine HSA.out.mono ?_
          rintro e w7 ⟨rfl, hg7⟩
          have H7 := Lib.hid hg7
          clear hg7
          go_wp2_with (fail)
          have hgz := Grows.trans H6.out H7.out
          go_roundw
          case rel => exact ⟨i + 1, nb + 1, _, by omega, by go_num, Lib.hid (HF.out.1.grow hgz), Lib.hid (by have := HNN.out; omega), Lib.hid (Grows.trans HF.out.2.1 hgz)⟩
          case measure => simp [intOf]; omega
        by_cases q1 : qs ≤ 99999999
        rotate_left 1
        · skip
          have hr : putB qs qn l = false := by
            rw [HPB.out]; exact decide_eq_false (by omega)
          have HCL := Lib.hid (show ∀ W, BkAt W pb bb nb l → Calls Try.prog 16 #[.pointer (some ⟨pb, 0, none⟩), .int .i64 qs, .int .i64 qn, .bool ql] W (BkTo W pb bb nb (l) false) from fun W hW => by
            have h0 := put_use hW (by have := HNN.out; omega) (k := qs) HOS.out.2.seg.1 HOS.out.2.seg.2 qn ql
            rw [hr] at h0
            rw [show putU qs qn ql l = l from by unfold putU; rw [hr, if_neg (by decide)]] at h0
            exact h0)
          clear hr
          go_wp2_with (first | rw [hW1] | rw [hW4] | fail)
          refine (HCL.out w3 (H3.out.1.grow (Grows.refl _))).mono ?_
          rintro e w5 ⟨⟨rfl, hb, hs⟩, hgr⟩
          have hg5 := hgr rfl
          have HF := Lib.hid (show BkAt w5 pb bb (nb + 1) l ∧ Grows w w5 ∧ (Whole w5 wr.heap.size 29 #[.int .i64 qw, .int .i64 qs, .int .i64 qn, .bool ql]) ∧ Uss w5 WA l.length wc l from
            ⟨hb, Grows.trans (Grows.trans H3.out.2.1 (Grows.refl _)) hg5, (Grows.trans (Grows.trans H3.out.2.2.1 (Grows.refl _)) hg5).whole HW.out.2, H3.out.2.2.2.grow (Grows.trans (Grows.refl _) hg5)⟩)
          clear hb hs hgr hg5
          clear d0 d1 d2 d3 hW1
          have qq := HF.out.2.2.1
          have d0 := qq.cell 0
          have d1 := qq.cell 1
          have d2 := qq.cell 2
          have d3 := qq.cell 3
          simp only [List.getElem?_toArray, List.getElem?_cons_zero, List.getElem?_cons_succ] at d0 d1 d2 d3
          clear qq
          have HAL2 := Lib.hid (all_use HF.out.1 (by have := HNN.out; omega))
          go_wp2_with (fail)
          refine HAL2.out.mono ?_
          rintro e w6 ⟨A6, c6, rfl, ho6, hg6⟩
          have HSA := Lib.hid (show Calls Try.prog 22 #[.slice A6 l.length c6, .slice WA l.length wc] w6 fun e w' => e = .returned (.bool true) ∧ Grows w6 w' from by
            have h0 := same_uses A6 l.length c6 WA l.length wc l l w6 (Rs.owned usL rfl ho6) (HF.out.2.2.2.grow hg6) (by have := HF.out.1.ok.few; have := HNN.out; omega)
            rw [decide_eq_true rfl] at h0
            exact h0)
          have H6 := Lib.hid hg6
          obtain ⟨m, hm⟩ : ∃ m, l.length = m := ⟨_, rfl⟩
          rw [hm] at HSA ⊢
          clear ho6 hg6 hm
          go_wp2_with (fail)
          refine HSA.out.mono ?_
          rintro e w7 ⟨rfl, hg7⟩
          have H7 := Lib.hid hg7
          clear hg7
          go_wp2_with (fail)
          have hgz := Grows.trans H6.out H7.out
          go_roundw
          case rel => exact ⟨i + 1, nb + 1, _, by omega, by go_num, Lib.hid (HF.out.1.grow hgz), Lib.hid (by have := HNN.out; omega), Lib.hid (Grows.trans HF.out.2.1 hgz)⟩
          case measure => simp [intOf]; omega
        by_cases q2 : 0 ≤ qn
        rotate_left 1
        · skip
          have hr : putB qs qn l = false := by
            rw [HPB.out]; exact decide_eq_false (by omega)
          have HCL := Lib.hid (show ∀ W, BkAt W pb bb nb l → Calls Try.prog 16 #[.pointer (some ⟨pb, 0, none⟩), .int .i64 qs, .int .i64 qn, .bool ql] W (BkTo W pb bb nb (l) false) from fun W hW => by
            have h0 := put_use hW (by have := HNN.out; omega) (k := qs) HOS.out.2.seg.1 HOS.out.2.seg.2 qn ql
            rw [hr] at h0
            rw [show putU qs qn ql l = l from by unfold putU; rw [hr, if_neg (by decide)]] at h0
            exact h0)
          clear hr
          go_wp2_with (first | rw [hW1] | rw [hW4] | fail)
          refine (HCL.out w3 (H3.out.1.grow (Grows.refl _))).mono ?_
          rintro e w5 ⟨⟨rfl, hb, hs⟩, hgr⟩
          have hg5 := hgr rfl
          have HF := Lib.hid (show BkAt w5 pb bb (nb + 1) l ∧ Grows w w5 ∧ (Whole w5 wr.heap.size 29 #[.int .i64 qw, .int .i64 qs, .int .i64 qn, .bool ql]) ∧ Uss w5 WA l.length wc l from
            ⟨hb, Grows.trans (Grows.trans H3.out.2.1 (Grows.refl _)) hg5, (Grows.trans (Grows.trans H3.out.2.2.1 (Grows.refl _)) hg5).whole HW.out.2, H3.out.2.2.2.grow (Grows.trans (Grows.refl _) hg5)⟩)
          clear hb hs hgr hg5
          clear d0 d1 d2 d3 hW1
          have qq := HF.out.2.2.1
          have d0 := qq.cell 0
          have d1 := qq.cell 1
          have d2 := qq.cell 2
          have d3 := qq.cell 3
          simp only [List.getElem?_toArray, List.getElem?_cons_zero, List.getElem?_cons_succ] at d0 d1 d2 d3
          clear qq
          have HAL2 := Lib.hid (all_use HF.out.1 (by have := HNN.out; omega))
          go_wp2_with (fail)
          refine HAL2.out.mono ?_
          rintro e w6 ⟨A6, c6, rfl, ho6, hg6⟩
          have HSA := Lib.hid (show Calls Try.prog 22 #[.slice A6 l.length c6, .slice WA l.length wc] w6 fun e w' => e = .returned (.bool true) ∧ Grows w6 w' from by
            have h0 := same_uses A6 l.length c6 WA l.length wc l l w6 (Rs.owned usL rfl ho6) (HF.out.2.2.2.grow hg6) (by have := HF.out.1.ok.few; have := HNN.out; omega)
            rw [decide_eq_true rfl] at h0
            exact h0)
          have H6 := Lib.hid hg6
          obtain ⟨m, hm⟩ : ∃ m, l.length = m := ⟨_, rfl⟩
          rw [hm] at HSA ⊢
          clear ho6 hg6 hm
          go_wp2_with (fail)
          refine HSA.out.mono ?_
          rintro e w7 ⟨rfl, hg7⟩
          have H7 := Lib.hid hg7
          clear hg7
          go_wp2_with (fail)
          have hgz := Grows.trans H6.out H7.out
          go_roundw
          case rel => exact ⟨i + 1, nb + 1, _, by omega, by go_num, Lib.hid (HF.out.1.grow hgz), Lib.hid (by have := HNN.out; omega), Lib.hid (Grows.trans HF.out.2.1 hgz)⟩
          case measure => simp [intOf]; omega
        by_cases q3 : qn ≤ 1099511627776
        rotate_left 1
        · skip
          have hr : putB qs qn l = false := by
            rw [HPB.out]; exact decide_eq_false (by omega)
          have HCL := Lib.hid (show ∀ W, BkAt W pb bb nb l → Calls Try.prog 16 #[.pointer (some ⟨pb, 0, none⟩), .int .i64 qs, .int .i64 qn, .bool ql] W (BkTo W pb bb nb (l) false) from fun W hW => by
            have h0 := put_use hW (by have := HNN.out; omega) (k := qs) HOS.out.2.seg.1 HOS.out.2.seg.2 qn ql
            rw [hr] at h0
            rw [show putU qs qn ql l = l from by unfold putU; rw [hr, if_neg (by decide)]] at h0
            exact h0)
          clear hr
          go_wp2_with (first | rw [hW1] | rw [hW4] | fail)
          refine (HCL.out w3 (H3.out.1.grow (Grows.refl _))).mono ?_
          rintro e w5 ⟨⟨rfl, hb, hs⟩, hgr⟩
          have hg5 := hgr rfl
          have HF := Lib.hid (show BkAt w5 pb bb (nb + 1) l ∧ Grows w w5 ∧ (Whole w5 wr.heap.size 29 #[.int .i64 qw, .int .i64 qs, .int .i64 qn, .bool ql]) ∧ Uss w5 WA l.length wc l from
            ⟨hb, Grows.trans (Grows.trans H3.out.2.1 (Grows.refl _)) hg5, (Grows.trans (Grows.trans H3.out.2.2.1 (Grows.refl _)) hg5).whole HW.out.2, H3.out.2.2.2.grow (Grows.trans (Grows.refl _) hg5)⟩)
          clear hb hs hgr hg5
          clear d0 d1 d2 d3 hW1
          have qq := HF.out.2.2.1
          have d0 := qq.cell 0
          have d1 := qq.cell 1
          have d2 := qq.cell 2
          have d3 := qq.cell 3
          simp only [List.getElem?_toArray, List.getElem?_cons_zero, List.getElem?_cons_succ] at d0 d1 d2 d3
          clear qq
          have HAL2 := Lib.hid (all_use HF.out.1 (by have := HNN.out; omega))
          go_wp2_with (fail)
          refine HAL2.out.mono ?_
          rintro e w6 ⟨A6, c6, rfl, ho6, hg6⟩
          have HSA := Lib.hid (show Calls Try.prog 22 #[.slice A6 l.length c6, .slice WA l.length wc] w6 fun e w' => e = .returned (.bool true) ∧ Grows w6 w' from by
            have h0 := same_uses A6 l.length c6 WA l.length wc l l w6 (Rs.owned usL rfl ho6) (HF.out.2.2.2.grow hg6) (by have := HF.out.1.ok.few; have := HNN.out; omega)
            rw [decide_eq_true rfl] at h0
            exact h0)
          have H6 := Lib.hid hg6
          obtain ⟨m, hm⟩ : ∃ m, l.length = m := ⟨_, rfl⟩
          rw [hm] at HSA ⊢
          clear ho6 hg6 hm
          go_wp2_with (fail)
          refine HSA.out.mono ?_
          rintro e w7 ⟨rfl, hg7⟩
          have H7 := Lib.hid hg7
          clear hg7
          go_wp2_with (fail)
          have hgz := Grows.trans H6.out H7.out
          go_roundw
          case rel => exact ⟨i + 1, nb + 1, _, by omega, by go_num, Lib.hid (HF.out.1.grow hgz), Lib.hid (by have := HNN.out; omega), Lib.hid (Grows.trans HF.out.2.1 hgz)⟩
          case measure => simp [intOf]; omega
        have hul := HBB.out.ok.use_le_sum qs
        have hr : putB qs qn l = true := by
          rw [HPB.out]; exact decide_eq_true (by have := HNN.out; omega)
        have HCL := Lib.hid (show ∀ W, BkAt W pb bb nb l → Calls Try.prog 16 #[.pointer (some ⟨pb, 0, none⟩), .int .i64 qs, .int .i64 qn, .bool ql] W (BkTo W pb bb nb (putU qs qn ql l) true) from fun W hW => by
          have h0 := put_use hW (by have := HNN.out; omega) (k := qs) HOS.out.2.seg.1 HOS.out.2.seg.2 qn ql
          rw [hr] at h0
          exact h0)
        clear hr
        go_wp2_with (first | rw [hW1] | rw [hW4] | fail)
        refine (HCL.out w3 (H3.out.1.grow (Grows.refl _))).mono ?_
        rintro e w5 ⟨⟨rfl, hb, hs⟩, hgr⟩
        have HF := Lib.hid (show BkAt w5 pb bb (nb + 1) (putU qs qn ql l) ∧ Grows w w5 ∧ (Whole w5 wr.heap.size 29 #[.int .i64 qw, .int .i64 qs, .int .i64 qn, .bool ql]) from
          ⟨hb, grow_book (Grows.trans H3.out.2.1 (Grows.refl _)) hs HLO.out, (hs.same _ (Nat.lt_of_lt_of_le HW.out.2.lt (Nat.le_trans H3.out.2.2.1.size (Grows.refl _).size)) (by have := HBB.out.ltb; omega)).trans ((Grows.refl _).whole (H3.out.2.2.1.whole HW.out.2))⟩)
        clear hb hs hgr
        clear d0 d1 d2 d3 hW1
        have qq := HF.out.2.2
        have d0 := qq.cell 0
        have d1 := qq.cell 1
        have d2 := qq.cell 2
        have d3 := qq.cell 3
        simp only [List.getElem?_toArray, List.getElem?_cons_zero, List.getElem?_cons_succ] at d0 d1 d2 d3
        clear qq
        go_wp2_with (fail)
        go_roundw
        case rel => exact ⟨i + 1, nb + 1, _, by omega, by go_num, Lib.hid HF.out.1, Lib.hid (by have := HNN.out; omega), Lib.hid HF.out.2.1⟩
        case measure => simp [intOf]; omega
      · go_wp2_with (first | rw [hW1] | fail)
        go_roundw
        case rel => exact ⟨i + 1, nb, _, by omega, by go_num, Lib.hid H3.out.1, Lib.hid (by have := HNN.out; omega), Lib.hid H3.out.2.1⟩
        case measure => simp [intOf]; omega
    · obtain rfl : i = n := by omega
      go_wp2_with (fail)
      go_ret
      exact ⟨rfl, HG.out⟩


set_option maxRecDepth 100000 in
theorem bookBounds_lifted (os : Os) (started : os.Started) (H : Type) (enc : TypeId × Value → H) :
    ReturnsInHanded {} Try.checked os 8 .any (Rows.bookBoundsSpec.pre6 enc Try.prog Try.f8 Rows.bookBoundsRow.domain false) (Rows.bookBoundsSpec.post enc Try.prog Try.f8 false true false false) := by
  refine lift_law (C := Try.checked) H enc own started (by kernel_rfl) Try.func8
    (ChangeSpec.witness6 (enc := enc) (C := Try.checked) false ⟨#[], #[.slice none 0 0], []⟩ 16 (by kernel_rfl) (by kernel_rfl) (by kernel_rfl) (by kernel_rfl))
    laidOut (of_readable (by kernel_rfl)) rfl Try.underlying4 rfl (fun ds hd => ?_) (fun W base args ds p hval hA hsz => ?_)
  · match ds, hd with
    | [d1], _ => rfl
  · rw [Try.params8] at hA hval hsz
    obtain ⟨v0, vs0, d0, ds0, p0, q0, hargs, rfl, rfl, h0, r0⟩ := trodAll_cons hA
    obtain ⟨rfl, rfl, rfl⟩ := trodAll_nil r0
    obtain rfl : args = #[v0] := by cases args; simp_all
    obtain ⟨A0, n0, c0, xs0, rfl, hx0⟩ := open_ops12 (hval 0 22 v0 rfl rfl) h0
    exact bookBounds_law W A0 n0 c0 xs0 hx0

theorem bookBounds_over : Rows.bookBoundsRow.holds Try.pinned (OpenSpec.ofChange Rows.bookBoundsSpec) :=
  OpenClaim.holds_of_wide 8 Try.f8 rfl rfl rfl rfl rfl rfl rfl ⟨rfl, rfl, rfl, rfl, rfl⟩ rfl rfl rfl rfl rfl (by kernel_rfl) Try.func8 (by kernel_rfl)
    (of_decide_eq_true (by kernel_rfl)) (by unfold Func.isWrapper; first | (rw [if_pos (by decide +kernel)]; kernel_rfl) | (rw [if_neg (by decide +kernel)]; exact ⟨rfl, rfl⟩))
    (fun os started H enc _ => bookBounds_lifted os started H enc)
theorem bookBounds_holds : Rows.BookBoundsSaid := bookBounds_over
end Go.Proofs.Ytlldcogkcjnejaa
