/-
  souterrainlaw12.BookWithin: whatever the calls are (any list of at most 200), what is alive is never below 0, nor more than there is; sums are of all that was put, less what was killed, and dropped.
-/
import Derived.Test.YtlldcogkcjnejaaBkOps
import Derived.Test.YtlldcogkcjnejaaBkMore
import Derived.Deep.CutBlock
import Derived.ProofKit
import Derived.ChangeOld
namespace Go.Proofs.Ytlldcogkcjnejaa
open Go.Maps Go.Shelf Go.Sort Go.ChangeShapes Go.WideShapes Go.ChangeAt Go.RowKit
set_option linter.unusedSimpArgs false
set_option linter.unusedVariables false
attribute [local irreducible] wpF
attribute [local irreducible] Go.wpQuiet

set_option maxRecDepth 100000 in
set_option maxHeartbeats 8000000 in
theorem bookWithin_law (w : World) (A : Option Addr) (n c : Nat) (os : List O12) (hx : Ops12 w A n c os) :
    Calls Try.prog 4 #[.slice A n c] w fun e w' => e = .returned (.bool true) ∧ Below w.heap.size w w' := by
  have HX := Lib.hid hx
  clear hx
  go_enter Try.func4, Try.ntmps4
  go_wp2_with (fail)
  refine (head12_any w).mono ?_
  rintro e w0 ⟨rfl, hg0⟩
  have HG0 := Lib.hid hg0
  clear hg0
  go_wp2_with (fail)
  refine (new_any w0).mono ?_
  rintro e w1 ⟨pb, bb, rfl, hb1, hg1, hp1, hq1⟩
  have H1 := Lib.hid (And.intro hb1 (Grows.trans HG0.out hg1))
  have HLO := Lib.hid (show w.heap.size ≤ bb from by have := HG0.out.size; omega)
  clear hb1 hg1 hp1 hq1
  by_cases hn : 200 < n
  · go_wp2_with (fail)
    go_ret
    exact ⟨rfl, H1.out.2⟩
  go_wp2_with (fail)
  go_loopw [5, 6, 7, 8, 9, 10, 11, 12, 13, 14] (fun va vl vi _ _ _ _ _ _ _ wr => ∃ (i nb : Nat) (l : List Us), i ≤ n ∧ vi = .int .i64 (i : Int) ∧ va = .int .i64 (sumA l) ∧ vl = .int .i64 (sumL l) ∧ Hid (BkAt wr pb bb nb l) ∧ Hid (nb ≤ i) ∧ Hid (Grows w wr)) (fun _ _ vi _ _ _ _ _ _ _ _ => n - (intOf vi).toNat)
  case atStart => exact ⟨0, 0, [], Nat.zero_le _, rfl, rfl, rfl, Lib.hid H1.out.1, Lib.hid (Nat.le_refl _), Lib.hid H1.out.2⟩
  case round =>
    obtain ⟨i, nb, l, hi, rfl, rfl, rfl, HBB, HNB, HG⟩ := hrel
    by_cases hlt : i < n
    · have HNN := Lib.hid (show nb ≤ i ∧ i < 200 ∧ i < n from by have := HNB.out; omega)
      clear hn
      obtain ⟨SA, hSA⟩ : ∃ z, sumA l = z := ⟨_, rfl⟩
      obtain ⟨SL, hSL⟩ : ∃ z, sumL l = z := ⟨_, rfl⟩
      rw [hSA, hSL]
      have HSL := Lib.hid (And.intro hSA hSL)
      clear hSA hSL
      obtain ⟨ad, ⟨qw, qs, qn, ql⟩, hA, hos, hbl, hok, hcs⟩ := Ops12.at (HX.out.grow HG.out) hlt
      subst hA
      obtain ⟨c0, c1, c2, c3⟩ := hcs wr (Grows.refl _)
      dsimp only at c0 c1 c2 c3
      have k0 : (0 : Int) ≤ (i : Int) := by omega
      have k1 : (i : Int) < (n : Int) := by omega
      obtain ⟨W1, hW1⟩ : ∃ W, wr.alloc (.cells #[.int .i64 qw, .int .i64 qs, .int .i64 qn, .bool ql] 29) = W := ⟨_, rfl⟩
      have hgW : Grows wr W1 := hW1 ▸ grows_alloc _ _
      have hmW : Whole W1 wr.heap.size 29 #[.int .i64 qw, .int .i64 qs, .int .i64 qn, .bool ql] := by rw [← hW1]; exact Whole.made _ _ _
      have HW := Lib.hid (And.intro hgW hmW)
      have HOS := Lib.hid (And.intro hos hok)
      have qq := HW.out.2
      have d0 := qq.cell 0
      have d1 := qq.cell 1
      have d2 := qq.cell 2
      have d3 := qq.cell 3
      simp only [List.getElem?_toArray, List.getElem?_cons_zero, List.getElem?_cons_succ] at d0 d1 d2 d3
      clear qq
      clear hos hok hbl hcs hgW hmW
      obtain ⟨hh, hhe⟩ : ∃ z, hasU qs l = z := ⟨_, rfl⟩
      obtain ⟨⟨u0, u1, u2⟩, hue⟩ : ∃ z, useOf qs l = z := ⟨_, rfl⟩
      have HOF := Lib.hid (show Calls Try.prog 18 #[.pointer (some ⟨pb, 0, none⟩), .int .i64 qs] W1 fun e w' => e = .returned (.tuple #[.agg #[.int .i64 u0, .int .i64 u1, .int .i64 u2], .bool hh]) ∧ Grows W1 w' from by
        have h0 := of_use (HBB.out.grow HW.out.1) (k := qs) HOS.out.2.seg.1 HOS.out.2.seg.2
        rw [hhe, hue] at h0
        exact h0)
      have HUE := Lib.hid hue
      clear hhe hue
      go_wp2_with (first | rw [hW1] | fail)
      refine HOF.out.mono ?_
      rintro e w4 ⟨rfl, hg4⟩
      obtain ⟨W4, hW4⟩ : ∃ W, w4.alloc (.cells #[.int .i64 u0, .int .i64 u1, .int .i64 u2] 34) = W := ⟨_, rfl⟩
      have HG4 := Lib.hid hg4
      have HGW4 := Lib.hid (show Grows W1 W4 from Grows.trans hg4 (hW4 ▸ grows_alloc _ _))
      have HU4 := Lib.hid (show Whole W4 w4.heap.size 34 #[.int .i64 u0, .int .i64 u1, .int .i64 u2] from by rw [← hW4]; exact Whole.made _ _ _)
      clear hg4 d0 d1 d2 d3 c0 c1 c2 c3 hW1
      have qq := HGW4.out.whole HW.out.2
      have d0 := qq.cell 0
      have d1 := qq.cell 1
      have d2 := qq.cell 2
      have d3 := qq.cell 3
      simp only [List.getElem?_toArray, List.getElem?_cons_zero, List.getElem?_cons_succ] at d0 d1 d2 d3
      clear qq
      go_upto_block 2 with (first | rw [hW4] | fail)
      clear hW4
      go_cut [5, 6] from 29 to 158 (fun va vl wx => ∃ (l2 : List Us), va = .int .i64 (sumA l2) ∧ vl = .int .i64 (sumL l2) ∧ Hid (BkAt wx pb bb (nb + 1) l2) ∧ Hid (Grows w wx))
      case first =>
        by_cases hw3 : qw = 3
        · subst hw3
          obtain ⟨r, hr⟩ : ∃ z, killB qs qn l = z := ⟨_, rfl⟩
          cases r
          · skip
            obtain ⟨l2, hl2⟩ : ∃ z, killU qs qn l = z := ⟨_, rfl⟩
            have hll : l2 = l := by rw [← hl2]; unfold killU; rw [hr, if_neg (by decide)]
            have hsums : sumA l2 = SA ∧ sumL l2 = SL := by rw [hll]; exact HSL.out
            obtain ⟨sa, rfl⟩ : ∃ z, z = SA := ⟨_, rfl⟩
            obtain ⟨sl, rfl⟩ : ∃ z, z = SL := ⟨_, rfl⟩
            have HCL := Lib.hid (show ∀ W, BkAt W pb bb nb l → Calls Try.prog 12 #[.pointer (some ⟨pb, 0, none⟩), .int .i64 qs, .int .i64 qn] W (BkTo W pb bb nb l2 false) from fun W hW => by
              have h0 := kill_use hW (by have := HNN.out; omega) (k := qs) HOS.out.2.seg.1 HOS.out.2.seg.2 qn
              rw [hr, hl2] at h0
              exact h0)
            have HSA := Lib.hid hsums
            clear hr hl2 hsums hll
            go_wp2_with (fail)
            refine (HCL.out W4 (HBB.out.grow (Grows.trans HW.out.1 HGW4.out))).mono ?_
            rintro e w5 ⟨⟨rfl, hb, hs⟩, _⟩
            have HF := Lib.hid (show BkAt w5 pb bb (nb + 1) l2 ∧ Grows w w5 ∧ (Whole w5 wr.heap.size 29 #[.int .i64 3, .int .i64 qs, .int .i64 qn, .bool ql]) ∧ (Whole w5 w4.heap.size 34 #[.int .i64 u0, .int .i64 u1, .int .i64 u2]) from
              ⟨hb, grow_book (Grows.trans (Grows.trans HG.out HW.out.1) HGW4.out) hs HLO.out, (hs.same _ (Nat.lt_of_lt_of_le HW.out.2.lt HGW4.out.size) (by have := HBB.out.ltb; omega)).trans (HGW4.out.whole HW.out.2), (hs.same _ HU4.out.lt (by have := (HBB.out.grow HW.out.1).ltb; have := HG4.out.size; omega)).trans HU4.out⟩)
            clear hb hs d0 d1 d2 d3
            go_wp2_with (fail)
            go_meet
            exact ⟨l2, by rw [HSA.out.1], by rw [HSA.out.2], Lib.hid HF.out.1, Lib.hid HF.out.2.1⟩
          · skip
            obtain ⟨l2, hl2⟩ : ∃ z, killU qs qn l = z := ⟨_, rfl⟩
            have hp := sums_kill HBB.out.ok.rise hr
            rw [hl2, HSL.out.1, HSL.out.2] at hp
            obtain ⟨sa, hsa⟩ : ∃ z, sumA l2 = z := ⟨_, rfl⟩
            obtain ⟨sl, hsl⟩ : ∃ z, sumL l2 = z := ⟨_, rfl⟩
            have hsums : sumA l2 = sa ∧ sumL l2 = sl := ⟨hsa, hsl⟩
            rw [hsa, hsl] at hp
            have HCL := Lib.hid (show ∀ W, BkAt W pb bb nb l → Calls Try.prog 12 #[.pointer (some ⟨pb, 0, none⟩), .int .i64 qs, .int .i64 qn] W (BkTo W pb bb nb l2 true) from fun W hW => by
              have h0 := kill_use hW (by have := HNN.out; omega) (k := qs) HOS.out.2.seg.1 HOS.out.2.seg.2 qn
              rw [hr, hl2] at h0
              exact h0)
            have HSA := Lib.hid hsums
            have ea : sa = SA := hp.1
            subst ea
            have eq1 : SL - qn = sl := hp.2.symm
            clear hp hsa hsl
            clear hr hl2 hsums
            go_wp2_with (fail)
            refine (HCL.out W4 (HBB.out.grow (Grows.trans HW.out.1 HGW4.out))).mono ?_
            rintro e w5 ⟨⟨rfl, hb, hs⟩, _⟩
            have HF := Lib.hid (show BkAt w5 pb bb (nb + 1) l2 ∧ Grows w w5 ∧ (Whole w5 wr.heap.size 29 #[.int .i64 3, .int .i64 qs, .int .i64 qn, .bool ql]) ∧ (Whole w5 w4.heap.size 34 #[.int .i64 u0, .int .i64 u1, .int .i64 u2]) from
              ⟨hb, grow_book (Grows.trans (Grows.trans HG.out HW.out.1) HGW4.out) hs HLO.out, (hs.same _ (Nat.lt_of_lt_of_le HW.out.2.lt HGW4.out.size) (by have := HBB.out.ltb; omega)).trans (HGW4.out.whole HW.out.2), (hs.same _ HU4.out.lt (by have := (HBB.out.grow HW.out.1).ltb; have := HG4.out.size; omega)).trans HU4.out⟩)
            clear hb hs d0 d1 d2 d3
            have qq := HF.out.2.2.1
            have d0 := qq.cell 0
            have d1 := qq.cell 1
            have d2 := qq.cell 2
            have d3 := qq.cell 3
            simp only [List.getElem?_toArray, List.getElem?_cons_zero, List.getElem?_cons_succ] at d0 d1 d2 d3
            clear qq
            have hin := sums_in HF.out.1.ok
            rw [HSA.out.1, HSA.out.2] at hin
            have hnn2 := HNN.out
            have HWA := Lib.hid (wrapI (x := sa) (by omega) (by omega))
            have HWB := Lib.hid (wrapI (x := sl) (by omega) (by omega))
            clear hin hnn2
            obtain ⟨wa1, wa2⟩ := HWA.out
            obtain ⟨wb1, wb2⟩ := HWB.out
            go_wp2_with (fail)
            go_meet
            exact ⟨l2, by rw [HSA.out.1], by rw [HSA.out.2], Lib.hid HF.out.1, Lib.hid HF.out.2.1⟩
        by_cases hw4 : qw = 4
        · subst hw4
          obtain ⟨r, hr⟩ : ∃ z, killB qs qn l = z := ⟨_, rfl⟩
          cases r
          · skip
            obtain ⟨l2, hl2⟩ : ∃ z, killU qs qn l = z := ⟨_, rfl⟩
            have hll : l2 = l := by rw [← hl2]; unfold killU; rw [hr, if_neg (by decide)]
            have hsums : sumA l2 = SA ∧ sumL l2 = SL := by rw [hll]; exact HSL.out
            obtain ⟨sa, rfl⟩ : ∃ z, z = SA := ⟨_, rfl⟩
            obtain ⟨sl, rfl⟩ : ∃ z, z = SL := ⟨_, rfl⟩
            have HCL := Lib.hid (show ∀ W, BkAt W pb bb nb l → Calls Try.prog 12 #[.pointer (some ⟨pb, 0, none⟩), .int .i64 qs, .int .i64 qn] W (BkTo W pb bb nb l2 false) from fun W hW => by
              have h0 := kill_use hW (by have := HNN.out; omega) (k := qs) HOS.out.2.seg.1 HOS.out.2.seg.2 qn
              rw [hr, hl2] at h0
              exact h0)
            have HSA := Lib.hid hsums
            clear hr hl2 hsums hll
            go_wp2_with (fail)
            refine (HCL.out W4 (HBB.out.grow (Grows.trans HW.out.1 HGW4.out))).mono ?_
            rintro e w5 ⟨⟨rfl, hb, hs⟩, _⟩
            have HF := Lib.hid (show BkAt w5 pb bb (nb + 1) l2 ∧ Grows w w5 ∧ (Whole w5 wr.heap.size 29 #[.int .i64 4, .int .i64 qs, .int .i64 qn, .bool ql]) ∧ (Whole w5 w4.heap.size 34 #[.int .i64 u0, .int .i64 u1, .int .i64 u2]) from
              ⟨hb, grow_book (Grows.trans (Grows.trans HG.out HW.out.1) HGW4.out) hs HLO.out, (hs.same _ (Nat.lt_of_lt_of_le HW.out.2.lt HGW4.out.size) (by have := HBB.out.ltb; omega)).trans (HGW4.out.whole HW.out.2), (hs.same _ HU4.out.lt (by have := (HBB.out.grow HW.out.1).ltb; have := HG4.out.size; omega)).trans HU4.out⟩)
            clear hb hs d0 d1 d2 d3
            go_wp2_with (fail)
            go_meet
            exact ⟨l2, by rw [HSA.out.1], by rw [HSA.out.2], Lib.hid HF.out.1, Lib.hid HF.out.2.1⟩
          · skip
            obtain ⟨l2, hl2⟩ : ∃ z, killU qs qn l = z := ⟨_, rfl⟩
            have hp := sums_kill HBB.out.ok.rise hr
            rw [hl2, HSL.out.1, HSL.out.2] at hp
            obtain ⟨sa, hsa⟩ : ∃ z, sumA l2 = z := ⟨_, rfl⟩
            obtain ⟨sl, hsl⟩ : ∃ z, sumL l2 = z := ⟨_, rfl⟩
            have hsums : sumA l2 = sa ∧ sumL l2 = sl := ⟨hsa, hsl⟩
            rw [hsa, hsl] at hp
            have HCL := Lib.hid (show ∀ W, BkAt W pb bb nb l → Calls Try.prog 12 #[.pointer (some ⟨pb, 0, none⟩), .int .i64 qs, .int .i64 qn] W (BkTo W pb bb nb l2 true) from fun W hW => by
              have h0 := kill_use hW (by have := HNN.out; omega) (k := qs) HOS.out.2.seg.1 HOS.out.2.seg.2 qn
              rw [hr, hl2] at h0
              exact h0)
            have HSA := Lib.hid hsums
            have ea : sa = SA := hp.1
            subst ea
            have eq1 : SL - qn = sl := hp.2.symm
            clear hp hsa hsl
            clear hr hl2 hsums
            go_wp2_with (fail)
            refine (HCL.out W4 (HBB.out.grow (Grows.trans HW.out.1 HGW4.out))).mono ?_
            rintro e w5 ⟨⟨rfl, hb, hs⟩, _⟩
            have HF := Lib.hid (show BkAt w5 pb bb (nb + 1) l2 ∧ Grows w w5 ∧ (Whole w5 wr.heap.size 29 #[.int .i64 4, .int .i64 qs, .int .i64 qn, .bool ql]) ∧ (Whole w5 w4.heap.size 34 #[.int .i64 u0, .int .i64 u1, .int .i64 u2]) from
              ⟨hb, grow_book (Grows.trans (Grows.trans HG.out HW.out.1) HGW4.out) hs HLO.out, (hs.same _ (Nat.lt_of_lt_of_le HW.out.2.lt HGW4.out.size) (by have := HBB.out.ltb; omega)).trans (HGW4.out.whole HW.out.2), (hs.same _ HU4.out.lt (by have := (HBB.out.grow HW.out.1).ltb; have := HG4.out.size; omega)).trans HU4.out⟩)
            clear hb hs d0 d1 d2 d3
            have qq := HF.out.2.2.1
            have d0 := qq.cell 0
            have d1 := qq.cell 1
            have d2 := qq.cell 2
            have d3 := qq.cell 3
            simp only [List.getElem?_toArray, List.getElem?_cons_zero, List.getElem?_cons_succ] at d0 d1 d2 d3
            clear qq
            have hin := sums_in HF.out.1.ok
            rw [HSA.out.1, HSA.out.2] at hin
            have hnn2 := HNN.out
            have HWA := Lib.hid (wrapI (x := sa) (by omega) (by omega))
            have HWB := Lib.hid (wrapI (x := sl) (by omega) (by omega))
            clear hin hnn2
            obtain ⟨wa1, wa2⟩ := HWA.out
            obtain ⟨wb1, wb2⟩ := HWB.out
            go_wp2_with (fail)
            go_meet
            exact ⟨l2, by rw [HSA.out.1], by rw [HSA.out.2], Lib.hid HF.out.1, Lib.hid HF.out.2.1⟩
        by_cases hw5 : qw = 5
        · subst hw5
          obtain ⟨r, hr⟩ : ∃ z, hasU qs l = z := ⟨_, rfl⟩
          cases r
          · skip
            obtain ⟨l2, hl2⟩ : ∃ z, dropU qs l = z := ⟨_, rfl⟩
            have hll : l2 = l := by rw [← hl2]; exact drop_none hr
            have hsums : sumA l2 = SA ∧ sumL l2 = SL := by rw [hll]; exact HSL.out
            obtain ⟨sa, rfl⟩ : ∃ z, z = SA := ⟨_, rfl⟩
            obtain ⟨sl, rfl⟩ : ∃ z, z = SL := ⟨_, rfl⟩
            have HCL := Lib.hid (show ∀ W, BkAt W pb bb nb l → Calls Try.prog 14 #[.pointer (some ⟨pb, 0, none⟩), .int .i64 qs] W (BkTo0 W pb bb nb l2 false) from fun W hW => by
              have h0 := drop_use hW (k := qs) HOS.out.2.seg.1 HOS.out.2.seg.2
              rw [hr, hl2] at h0
              exact h0)
            have HSA := Lib.hid hsums
            clear hr hl2 hsums hll
            go_wp2_with (fail)
            refine (HCL.out W4 (HBB.out.grow (Grows.trans HW.out.1 HGW4.out))).mono ?_
            rintro e w5 ⟨rfl, hb, hs⟩
            have HF := Lib.hid (show BkAt w5 pb bb (nb + 1) l2 ∧ Grows w w5 ∧ (Whole w5 wr.heap.size 29 #[.int .i64 5, .int .i64 qs, .int .i64 qn, .bool ql]) ∧ (Whole w5 w4.heap.size 34 #[.int .i64 u0, .int .i64 u1, .int .i64 u2]) from
              ⟨hb, grow_book (Grows.trans (Grows.trans HG.out HW.out.1) HGW4.out) hs HLO.out, (hs.same _ (Nat.lt_of_lt_of_le HW.out.2.lt HGW4.out.size) (by have := HBB.out.ltb; omega)).trans (HGW4.out.whole HW.out.2), (hs.same _ HU4.out.lt (by have := (HBB.out.grow HW.out.1).ltb; have := HG4.out.size; omega)).trans HU4.out⟩)
            clear hb hs d0 d1 d2 d3
            go_wp2_with (fail)
            go_meet
            exact ⟨l2, by rw [HSA.out.1], by rw [HSA.out.2], Lib.hid HF.out.1, Lib.hid HF.out.2.1⟩
          · skip
            obtain ⟨l2, hl2⟩ : ∃ z, dropU qs l = z := ⟨_, rfl⟩
            have hp := sums_drop (k := qs) HBB.out.ok.rise
            rw [hl2, HSL.out.1, HSL.out.2, HUE.out] at hp
            obtain ⟨sa, hsa⟩ : ∃ z, sumA l2 = z := ⟨_, rfl⟩
            obtain ⟨sl, hsl⟩ : ∃ z, sumL l2 = z := ⟨_, rfl⟩
            have hsums : sumA l2 = sa ∧ sumL l2 = sl := ⟨hsa, hsl⟩
            rw [hsa, hsl] at hp
            have HCL := Lib.hid (show ∀ W, BkAt W pb bb nb l → Calls Try.prog 14 #[.pointer (some ⟨pb, 0, none⟩), .int .i64 qs] W (BkTo0 W pb bb nb l2 true) from fun W hW => by
              have h0 := drop_use hW (k := qs) HOS.out.2.seg.1 HOS.out.2.seg.2
              rw [hr, hl2] at h0
              exact h0)
            have HSA := Lib.hid hsums
            have eq0 : SA - u1 = sa := hp.1.symm
            have eq1 : SL - u2 = sl := hp.2.symm
            clear hp hsa hsl
            clear hr hl2 hsums
            go_wp2_with (fail)
            refine (HCL.out W4 (HBB.out.grow (Grows.trans HW.out.1 HGW4.out))).mono ?_
            rintro e w5 ⟨rfl, hb, hs⟩
            have HF := Lib.hid (show BkAt w5 pb bb (nb + 1) l2 ∧ Grows w w5 ∧ (Whole w5 wr.heap.size 29 #[.int .i64 5, .int .i64 qs, .int .i64 qn, .bool ql]) ∧ (Whole w5 w4.heap.size 34 #[.int .i64 u0, .int .i64 u1, .int .i64 u2]) from
              ⟨hb, grow_book (Grows.trans (Grows.trans HG.out HW.out.1) HGW4.out) hs HLO.out, (hs.same _ (Nat.lt_of_lt_of_le HW.out.2.lt HGW4.out.size) (by have := HBB.out.ltb; omega)).trans (HGW4.out.whole HW.out.2), (hs.same _ HU4.out.lt (by have := (HBB.out.grow HW.out.1).ltb; have := HG4.out.size; omega)).trans HU4.out⟩)
            clear hb hs d0 d1 d2 d3
            have qq := HF.out.2.2.1
            have d0 := qq.cell 0
            have d1 := qq.cell 1
            have d2 := qq.cell 2
            have d3 := qq.cell 3
            simp only [List.getElem?_toArray, List.getElem?_cons_zero, List.getElem?_cons_succ] at d0 d1 d2 d3
            clear qq
            have uu1 := HF.out.2.2.2.cell 1
            have uu2 := HF.out.2.2.2.cell 2
            simp only [List.getElem?_toArray, List.getElem?_cons_zero, List.getElem?_cons_succ] at uu1 uu2
            have hin := sums_in HF.out.1.ok
            rw [HSA.out.1, HSA.out.2] at hin
            have hnn2 := HNN.out
            have HWA := Lib.hid (wrapI (x := sa) (by omega) (by omega))
            have HWB := Lib.hid (wrapI (x := sl) (by omega) (by omega))
            clear hin hnn2
            obtain ⟨wa1, wa2⟩ := HWA.out
            obtain ⟨wb1, wb2⟩ := HWB.out
            go_wp2_with (fail)
            go_meet
            exact ⟨l2, by rw [HSA.out.1], by rw [HSA.out.2], Lib.hid HF.out.1, Lib.hid HF.out.2.1⟩
        have g3 : (qw == 3) = false := by rw [beq_eq_false_iff_ne]; exact hw3
        have g4 : (qw == 4) = false := by rw [beq_eq_false_iff_ne]; exact hw4
        have g5 : (qw == 5) = false := by rw [beq_eq_false_iff_ne]; exact hw5
        clear hw3 hw4 hw5
        obtain ⟨r, hr⟩ : ∃ z, putB qs qn l = z := ⟨_, rfl⟩
        cases r
        · skip
          obtain ⟨l2, hl2⟩ : ∃ z, putU qs qn ql l = z := ⟨_, rfl⟩
          have hll : l2 = l := by rw [← hl2]; unfold putU; rw [hr, if_neg (by decide)]
          have hsums : sumA l2 = SA ∧ sumL l2 = SL := by rw [hll]; exact HSL.out
          obtain ⟨sa, rfl⟩ : ∃ z, z = SA := ⟨_, rfl⟩
          obtain ⟨sl, rfl⟩ : ∃ z, z = SL := ⟨_, rfl⟩
          have HCL := Lib.hid (show ∀ W, BkAt W pb bb nb l → Calls Try.prog 16 #[.pointer (some ⟨pb, 0, none⟩), .int .i64 qs, .int .i64 qn, .bool ql] W (BkTo W pb bb nb l2 false) from fun W hW => by
            have h0 := put_use hW (by have := HNN.out; omega) (k := qs) HOS.out.2.seg.1 HOS.out.2.seg.2 qn ql
            rw [hr, hl2] at h0
            exact h0)
          have HSA := Lib.hid hsums
          clear hr hl2 hsums hll
          go_wp2_with (fail)
          refine (HCL.out W4 (HBB.out.grow (Grows.trans HW.out.1 HGW4.out))).mono ?_
          rintro e w5 ⟨⟨rfl, hb, hs⟩, _⟩
          have HF := Lib.hid (show BkAt w5 pb bb (nb + 1) l2 ∧ Grows w w5 ∧ (Whole w5 wr.heap.size 29 #[.int .i64 qw, .int .i64 qs, .int .i64 qn, .bool ql]) ∧ (Whole w5 w4.heap.size 34 #[.int .i64 u0, .int .i64 u1, .int .i64 u2]) from
            ⟨hb, grow_book (Grows.trans (Grows.trans HG.out HW.out.1) HGW4.out) hs HLO.out, (hs.same _ (Nat.lt_of_lt_of_le HW.out.2.lt HGW4.out.size) (by have := HBB.out.ltb; omega)).trans (HGW4.out.whole HW.out.2), (hs.same _ HU4.out.lt (by have := (HBB.out.grow HW.out.1).ltb; have := HG4.out.size; omega)).trans HU4.out⟩)
          clear hb hs d0 d1 d2 d3
          go_wp2_with (fail)
          go_meet
          exact ⟨l2, by rw [HSA.out.1], by rw [HSA.out.2], Lib.hid HF.out.1, Lib.hid HF.out.2.1⟩
        · cases ql
          · skip
            obtain ⟨l2, hl2⟩ : ∃ z, putU qs qn false l = z := ⟨_, rfl⟩
            have hp := sums_put (live := false) HBB.out.ok.rise hr
            rw [hl2, HSL.out.1, HSL.out.2] at hp
            rw [if_neg (by decide), Int.add_zero] at hp
            obtain ⟨sa, hsa⟩ : ∃ z, sumA l2 = z := ⟨_, rfl⟩
            obtain ⟨sl, hsl⟩ : ∃ z, sumL l2 = z := ⟨_, rfl⟩
            have hsums : sumA l2 = sa ∧ sumL l2 = sl := ⟨hsa, hsl⟩
            rw [hsa, hsl] at hp
            have HCL := Lib.hid (show ∀ W, BkAt W pb bb nb l → Calls Try.prog 16 #[.pointer (some ⟨pb, 0, none⟩), .int .i64 qs, .int .i64 qn, .bool false] W (BkTo W pb bb nb l2 true) from fun W hW => by
              have h0 := put_use hW (by have := HNN.out; omega) (k := qs) HOS.out.2.seg.1 HOS.out.2.seg.2 qn false
              rw [hr, hl2] at h0
              exact h0)
            have HSA := Lib.hid hsums
            have ea : sl = SL := hp.2
            subst ea
            have eq0 : SA + qn = sa := hp.1.symm
            clear hp hsa hsl
            clear hr hl2 hsums
            go_wp2_with (fail)
            refine (HCL.out W4 (HBB.out.grow (Grows.trans HW.out.1 HGW4.out))).mono ?_
            rintro e w5 ⟨⟨rfl, hb, hs⟩, _⟩
            have HF := Lib.hid (show BkAt w5 pb bb (nb + 1) l2 ∧ Grows w w5 ∧ (Whole w5 wr.heap.size 29 #[.int .i64 qw, .int .i64 qs, .int .i64 qn, .bool false]) ∧ (Whole w5 w4.heap.size 34 #[.int .i64 u0, .int .i64 u1, .int .i64 u2]) from
              ⟨hb, grow_book (Grows.trans (Grows.trans HG.out HW.out.1) HGW4.out) hs HLO.out, (hs.same _ (Nat.lt_of_lt_of_le HW.out.2.lt HGW4.out.size) (by have := HBB.out.ltb; omega)).trans (HGW4.out.whole HW.out.2), (hs.same _ HU4.out.lt (by have := (HBB.out.grow HW.out.1).ltb; have := HG4.out.size; omega)).trans HU4.out⟩)
            clear hb hs d0 d1 d2 d3
            have qq := HF.out.2.2.1
            have d0 := qq.cell 0
            have d1 := qq.cell 1
            have d2 := qq.cell 2
            have d3 := qq.cell 3
            simp only [List.getElem?_toArray, List.getElem?_cons_zero, List.getElem?_cons_succ] at d0 d1 d2 d3
            clear qq
            have hin := sums_in HF.out.1.ok
            rw [HSA.out.1, HSA.out.2] at hin
            have hnn2 := HNN.out
            have HWA := Lib.hid (wrapI (x := sa) (by omega) (by omega))
            have HWB := Lib.hid (wrapI (x := sl) (by omega) (by omega))
            clear hin hnn2
            obtain ⟨wa1, wa2⟩ := HWA.out
            obtain ⟨wb1, wb2⟩ := HWB.out
            go_wp2_with (fail)
            go_meet
            exact ⟨l2, by rw [HSA.out.1], by rw [HSA.out.2], Lib.hid HF.out.1, Lib.hid HF.out.2.1⟩
          · skip
            obtain ⟨l2, hl2⟩ : ∃ z, putU qs qn true l = z := ⟨_, rfl⟩
            have hp := sums_put (live := true) HBB.out.ok.rise hr
            rw [hl2, HSL.out.1, HSL.out.2] at hp
            rw [if_pos rfl] at hp
            obtain ⟨sa, hsa⟩ : ∃ z, sumA l2 = z := ⟨_, rfl⟩
            obtain ⟨sl, hsl⟩ : ∃ z, sumL l2 = z := ⟨_, rfl⟩
            have hsums : sumA l2 = sa ∧ sumL l2 = sl := ⟨hsa, hsl⟩
            rw [hsa, hsl] at hp
            have HCL := Lib.hid (show ∀ W, BkAt W pb bb nb l → Calls Try.prog 16 #[.pointer (some ⟨pb, 0, none⟩), .int .i64 qs, .int .i64 qn, .bool true] W (BkTo W pb bb nb l2 true) from fun W hW => by
              have h0 := put_use hW (by have := HNN.out; omega) (k := qs) HOS.out.2.seg.1 HOS.out.2.seg.2 qn true
              rw [hr, hl2] at h0
              exact h0)
            have HSA := Lib.hid hsums
            have eq0 : SA + qn = sa := hp.1.symm
            have eq1 : SL + qn = sl := hp.2.symm
            clear hp hsa hsl
            clear hr hl2 hsums
            go_wp2_with (fail)
            refine (HCL.out W4 (HBB.out.grow (Grows.trans HW.out.1 HGW4.out))).mono ?_
            rintro e w5 ⟨⟨rfl, hb, hs⟩, _⟩
            have HF := Lib.hid (show BkAt w5 pb bb (nb + 1) l2 ∧ Grows w w5 ∧ (Whole w5 wr.heap.size 29 #[.int .i64 qw, .int .i64 qs, .int .i64 qn, .bool true]) ∧ (Whole w5 w4.heap.size 34 #[.int .i64 u0, .int .i64 u1, .int .i64 u2]) from
              ⟨hb, grow_book (Grows.trans (Grows.trans HG.out HW.out.1) HGW4.out) hs HLO.out, (hs.same _ (Nat.lt_of_lt_of_le HW.out.2.lt HGW4.out.size) (by have := HBB.out.ltb; omega)).trans (HGW4.out.whole HW.out.2), (hs.same _ HU4.out.lt (by have := (HBB.out.grow HW.out.1).ltb; have := HG4.out.size; omega)).trans HU4.out⟩)
            clear hb hs d0 d1 d2 d3
            have qq := HF.out.2.2.1
            have d0 := qq.cell 0
            have d1 := qq.cell 1
            have d2 := qq.cell 2
            have d3 := qq.cell 3
            simp only [List.getElem?_toArray, List.getElem?_cons_zero, List.getElem?_cons_succ] at d0 d1 d2 d3
            clear qq
            have hin := sums_in HF.out.1.ok
            rw [HSA.out.1, HSA.out.2] at hin
            have hnn2 := HNN.out
            have HWA := Lib.hid (wrapI (x := sa) (by omega) (by omega))
            have HWB := Lib.hid (wrapI (x := sl) (by omega) (by omega))
            clear hin hnn2
            obtain ⟨wa1, wa2⟩ := HWA.out
            obtain ⟨wb1, wb2⟩ := HWB.out
            go_wp2_with (fail)
            go_meet
            exact ⟨l2, by rw [HSA.out.1], by rw [HSA.out.2], Lib.hid HF.out.1, Lib.hid HF.out.2.1⟩
      case rest =>
        obtain ⟨l2, hva, hvl, HFA, HFB⟩ := hcut
        have HF := Lib.hid (show BkAt wc pb bb (nb + 1) l2 ∧ Grows w wc from ⟨HFA.out, HFB.out⟩)
        obtain ⟨sa, hsa⟩ : ∃ z, sumA l2 = z := ⟨_, rfl⟩
        obtain ⟨sl, hsl⟩ : ∃ z, sumL l2 = z := ⟨_, rfl⟩
        rw [hsa] at hva
        rw [hsl] at hvl
        subst hva hvl
        have HSA := Lib.hid (show sumA l2 = sa ∧ sumL l2 = sl from ⟨hsa, hsl⟩)
        clear hsa hsl
        have HSM := Lib.hid (show Calls Try.prog 20 #[.pointer (some ⟨pb, 0, none⟩)] wc fun e w' => e = .returned (.tuple #[.int .i64 sa, .int .i64 sl]) ∧ Grows wc w' from by
          have h0 := sum_use HF.out.1 (by have := HNN.out; omega)
          rw [HSA.out.1, HSA.out.2] at h0
          exact h0)
        have hs1 : (sa != sa) = false := by simp
        have hs2 : (sl != sl) = false := by simp
        go_wp2_with (fail)
        refine HSM.out.mono ?_
        rintro e w6 ⟨rfl, hg6⟩
        have H6 := Lib.hid hg6
        have HAL := Lib.hid (all_use (HF.out.1.grow hg6) (by have := HNN.out; omega))
        clear hg6
        go_wp2_with (fail)
        refine HAL.out.mono ?_
        rintro e w7 ⟨B, cw, rfl, ho7, hg7⟩
        have hfe := HF.out.1.ok.few
        have H7 := Lib.hid (show Uss w7 B l2.length cw l2 ∧ Grows wc w7 ∧ l2.length ≤ 1000000 from ⟨Rs.owned usL rfl ho7, Grows.trans H6.out hg7, by have := HNN.out; omega⟩)
        obtain ⟨m, hm⟩ : ∃ m, l2.length = m := ⟨_, rfl⟩
        rw [hm] at H7 ⊢
        have HM := Lib.hid hm
        clear ho7 hg7 hfe hm
        go_wp2_with (fail)
        go_loopw [14] (fun vk wr => ∃ (k : Nat), k ≤ m ∧ vk = .int .i64 (k : Int) ∧ Hid (Grows w7 wr)) (fun vk _ => m - (intOf vk).toNat)
        case atStart => exact ⟨0, Nat.zero_le _, rfl, Lib.hid (Grows.refl _)⟩
        case round =>
          obtain ⟨k, hk, rfl, HG9⟩ := hrel
          have hm6 := H7.out.2.2
          by_cases hkt : k < m
          · obtain ⟨ad, x, hA, hx, hbl, hcx⟩ := Uss.at (H7.out.1.grow HG9.out) hkt
            subst hA
            have HCX := Lib.hid hcx
            have hxe := HF.out.1.ok.each x (List.mem_of_getElem? hx)
            have k0 : (0 : Int) ≤ (k : Int) := by omega
            have k1 : (k : Int) < (m : Int) := by omega
            by_cases hk0 : k = 0
            · obtain ⟨x0, x1, x2⟩ := x
              have HKI := Lib.hid (And.intro k0 k1)
              have HBD := Lib.hid (show ¬ x2 < 0 ∧ ¬ x1 < x2 ∧ ¬ x0 < 0 from by dsimp only at hxe; omega)
              have HK0 := Lib.hid hk0
              clear hcx hxe hx hbl hk0
              go_wp2_with (fail)
              refine wp_region_facts (E := Grows) [valFact (.slice (some ad) m cw), valFact (.int .i64 (k : Int)), valFact (.pointer (some (ad.add (k * 3)))), valFact (.pointer (some { block := (ad.add (k * 3)).block, off := (ad.add (k * 3)).off + 2 })), valFact (.int .i64 x2), valFact (.bool false), valFact (.bool false), valFact (.slice (some ad) m cw), valFact (.int .i64 (k : Int)), valFact (.pointer (some (ad.add (k * 3)))), valFact (.pointer (some { block := (ad.add (k * 3)).block, off := (ad.add (k * 3)).off + 2 })), valFact (.int .i64 x2), valFact (.slice (some ad) m cw), valFact (.int .i64 (k : Int)), valFact (.pointer (some (ad.add (k * 3)))), valFact (.pointer (some { block := (ad.add (k * 3)).block, off := (ad.add (k * 3)).off + 1 })), valFact (.int .i64 x1), valFact (.bool false), valFact (.bool false), valFact (.bool false), valFact (.slice (some ad) m cw), valFact (.int .i64 (k : Int)), valFact (.pointer (some (ad.add (k * 3)))), valFact (.pointer (some (ad.add (k * 3)))), valFact (.int .i64 x0), valFact (.bool false), valFact (.bool false), valFact (.bool false), valFact (.int .i64 (k : Int)), valFact (.bool false), valFact (.bool false), valFact undef, valFact undef, valFact undef, valFact undef, valFact undef, valFact undef, valFact undef, valFact undef, valFact undef, valFact undef, valFact undef, valFact undef, valFact (.bool false), valFact (.bool false)] (by kernel_rfl) (by kernel_rfl) (fun _ _ _ => Grows.trans) (grows_drew _) ?_
              refine f_val (.slice (some ad) m cw) (by rfl) ?_ ?_
              · intro w' hC; clear hC; go_simp
              simp only [Act.put, List.setIfInBounds_toArray, List.set_cons_zero, List.set_cons_succ]
              refine f_val (.int .i64 (k : Int)) (by rfl) ?_ ?_
              · intro w' hC; clear hC; go_simp
              simp only [Act.put, List.setIfInBounds_toArray, List.set_cons_zero, List.set_cons_succ]
              refine f_val (.pointer (some (ad.add (k * 3)))) (by rfl) ?_ ?_
              · intro w' hC; have k0 := HKI.out; clear hC; go_simp
              simp only [Act.put, List.setIfInBounds_toArray, List.set_cons_zero, List.set_cons_succ]
              refine f_val (.pointer (some { block := (ad.add (k * 3)).block, off := (ad.add (k * 3)).off + 2 })) (by rfl) ?_ ?_
              · intro w' hC; clear hC; go_simp
              simp only [Act.put, List.setIfInBounds_toArray, List.set_cons_zero, List.set_cons_succ]
              refine f_val (.int .i64 x2) (by rfl) ?_ ?_
              · intro w' hC; have q := HCX.out w' hC; have q0 := q.1; have q1 := q.2.1; have q2 := q.2.2; clear hC; go_simp
              simp only [Act.put, List.setIfInBounds_toArray, List.set_cons_zero, List.set_cons_succ]
              refine f_val (.bool false) (by rfl) ?_ ?_
              · intro w' hC; have k0 := HBD.out; clear hC; go_simp
              simp only [Act.put, List.setIfInBounds_toArray, List.set_cons_zero, List.set_cons_succ]
              refine f_val (.bool false) (by rfl) ?_ ?_
              · intro w' hC; clear hC; go_simp
              simp only [Act.put, List.setIfInBounds_toArray, List.set_cons_zero, List.set_cons_succ]
              refine f_val (.slice (some ad) m cw) (by rfl) ?_ ?_
              · intro w' hC; clear hC; go_simp
              simp only [Act.put, List.setIfInBounds_toArray, List.set_cons_zero, List.set_cons_succ]
              refine f_val (.int .i64 (k : Int)) (by rfl) ?_ ?_
              · intro w' hC; clear hC; go_simp
              simp only [Act.put, List.setIfInBounds_toArray, List.set_cons_zero, List.set_cons_succ]
              refine f_val (.pointer (some (ad.add (k * 3)))) (by rfl) ?_ ?_
              · intro w' hC; have k0 := HKI.out; clear hC; go_simp
              simp only [Act.put, List.setIfInBounds_toArray, List.set_cons_zero, List.set_cons_succ]
              refine f_val (.pointer (some { block := (ad.add (k * 3)).block, off := (ad.add (k * 3)).off + 2 })) (by rfl) ?_ ?_
              · intro w' hC; clear hC; go_simp
              simp only [Act.put, List.setIfInBounds_toArray, List.set_cons_zero, List.set_cons_succ]
              refine f_val (.int .i64 x2) (by rfl) ?_ ?_
              · intro w' hC; have q := HCX.out w' hC; have q0 := q.1; have q1 := q.2.1; have q2 := q.2.2; clear hC; go_simp
              simp only [Act.put, List.setIfInBounds_toArray, List.set_cons_zero, List.set_cons_succ]
              refine f_val (.slice (some ad) m cw) (by rfl) ?_ ?_
              · intro w' hC; clear hC; go_simp
              simp only [Act.put, List.setIfInBounds_toArray, List.set_cons_zero, List.set_cons_succ]
              refine f_val (.int .i64 (k : Int)) (by rfl) ?_ ?_
              · intro w' hC; clear hC; go_simp
              simp only [Act.put, List.setIfInBounds_toArray, List.set_cons_zero, List.set_cons_succ]
              refine f_val (.pointer (some (ad.add (k * 3)))) (by rfl) ?_ ?_
              · intro w' hC; have k0 := HKI.out; clear hC; go_simp
              simp only [Act.put, List.setIfInBounds_toArray, List.set_cons_zero, List.set_cons_succ]
              refine f_val (.pointer (some { block := (ad.add (k * 3)).block, off := (ad.add (k * 3)).off + 1 })) (by rfl) ?_ ?_
              · intro w' hC; clear hC; go_simp
              simp only [Act.put, List.setIfInBounds_toArray, List.set_cons_zero, List.set_cons_succ]
              refine f_val (.int .i64 x1) (by rfl) ?_ ?_
              · intro w' hC; have q := HCX.out w' hC; have q0 := q.1; have q1 := q.2.1; have q2 := q.2.2; clear hC; go_simp
              simp only [Act.put, List.setIfInBounds_toArray, List.set_cons_zero, List.set_cons_succ]
              refine f_val (.bool false) (by rfl) ?_ ?_
              · intro w' hC; have k0 := HBD.out; clear hC; go_simp
              simp only [Act.put, List.setIfInBounds_toArray, List.set_cons_zero, List.set_cons_succ]
              refine f_val (.bool false) (by rfl) ?_ ?_
              · intro w' hC; clear hC; go_simp
              simp only [Act.put, List.setIfInBounds_toArray, List.set_cons_zero, List.set_cons_succ]
              refine f_val (.bool false) (by rfl) ?_ ?_
              · intro w' hC; clear hC; go_simp
              simp only [Act.put, List.setIfInBounds_toArray, List.set_cons_zero, List.set_cons_succ]
              refine f_val (.slice (some ad) m cw) (by rfl) ?_ ?_
              · intro w' hC; clear hC; go_simp
              simp only [Act.put, List.setIfInBounds_toArray, List.set_cons_zero, List.set_cons_succ]
              refine f_val (.int .i64 (k : Int)) (by rfl) ?_ ?_
              · intro w' hC; clear hC; go_simp
              simp only [Act.put, List.setIfInBounds_toArray, List.set_cons_zero, List.set_cons_succ]
              refine f_val (.pointer (some (ad.add (k * 3)))) (by rfl) ?_ ?_
              · intro w' hC; have k0 := HKI.out; clear hC; go_simp
              simp only [Act.put, List.setIfInBounds_toArray, List.set_cons_zero, List.set_cons_succ]
              refine f_val (.pointer (some (ad.add (k * 3)))) (by rfl) ?_ ?_
              · intro w' hC; clear hC; go_simp
              simp only [Act.put, List.setIfInBounds_toArray, List.set_cons_zero, List.set_cons_succ]
              refine f_val (.int .i64 x0) (by rfl) ?_ ?_
              · intro w' hC; have q := HCX.out w' hC; have q0 := q.1; have q1 := q.2.1; have q2 := q.2.2; clear hC; go_simp
              simp only [Act.put, List.setIfInBounds_toArray, List.set_cons_zero, List.set_cons_succ]
              refine f_val (.bool false) (by rfl) ?_ ?_
              · intro w' hC; have k0 := HBD.out; clear hC; go_simp
              simp only [Act.put, List.setIfInBounds_toArray, List.set_cons_zero, List.set_cons_succ]
              refine f_val (.bool false) (by rfl) ?_ ?_
              · intro w' hC; clear hC; go_simp
              simp only [Act.put, List.setIfInBounds_toArray, List.set_cons_zero, List.set_cons_succ]
              refine f_val (.bool false) (by rfl) ?_ ?_
              · intro w' hC; clear hC; go_simp
              simp only [Act.put, List.setIfInBounds_toArray, List.set_cons_zero, List.set_cons_succ]
              refine f_val (.int .i64 (k : Int)) (by rfl) ?_ ?_
              · intro w' hC; clear hC; go_simp
              simp only [Act.put, List.setIfInBounds_toArray, List.set_cons_zero, List.set_cons_succ]
              refine f_val (.bool false) (by rfl) ?_ ?_
              · intro w' hC; have k0 := HK0.out; clear hC; go_simp
              simp only [Act.put, List.setIfInBounds_toArray, List.set_cons_zero, List.set_cons_succ]
              refine f_val (.bool false) (by rfl) ?_ ?_
              · intro w' hC; clear hC; go_simp
              simp only [Act.put, List.setIfInBounds_toArray, List.set_cons_zero, List.set_cons_succ]
              refine f_skip (by rfl) ?_
              simp only [Act.put, List.setIfInBounds_toArray, List.set_cons_zero, List.set_cons_succ]
              refine f_skip (by rfl) ?_
              simp only [Act.put, List.setIfInBounds_toArray, List.set_cons_zero, List.set_cons_succ]
              refine f_skip (by rfl) ?_
              simp only [Act.put, List.setIfInBounds_toArray, List.set_cons_zero, List.set_cons_succ]
              refine f_skip (by rfl) ?_
              simp only [Act.put, List.setIfInBounds_toArray, List.set_cons_zero, List.set_cons_succ]
              refine f_skip (by rfl) ?_
              simp only [Act.put, List.setIfInBounds_toArray, List.set_cons_zero, List.set_cons_succ]
              refine f_skip (by rfl) ?_
              simp only [Act.put, List.setIfInBounds_toArray, List.set_cons_zero, List.set_cons_succ]
              refine f_skip (by rfl) ?_
              simp only [Act.put, List.setIfInBounds_toArray, List.set_cons_zero, List.set_cons_succ]
              refine f_skip (by rfl) ?_
              simp only [Act.put, List.setIfInBounds_toArray, List.set_cons_zero, List.set_cons_succ]
              refine f_skip (by rfl) ?_
              simp only [Act.put, List.setIfInBounds_toArray, List.set_cons_zero, List.set_cons_succ]
              refine f_skip (by rfl) ?_
              simp only [Act.put, List.setIfInBounds_toArray, List.set_cons_zero, List.set_cons_succ]
              refine f_skip (by rfl) ?_
              simp only [Act.put, List.setIfInBounds_toArray, List.set_cons_zero, List.set_cons_succ]
              refine f_skip (by rfl) ?_
              simp only [Act.put, List.setIfInBounds_toArray, List.set_cons_zero, List.set_cons_succ]
              refine f_val (.bool false) (by rfl) ?_ ?_
              · intro w' hC; clear hC; go_simp
              simp only [Act.put, List.setIfInBounds_toArray, List.set_cons_zero, List.set_cons_succ]
              refine f_val (.bool false) (by rfl) ?_ ?_
              · intro w' hC; clear hC; go_simp
              simp only [Act.put, List.setIfInBounds_toArray, List.set_cons_zero, List.set_cons_succ]
              refine wpF_end ?_
              intro w9 hC hks
              have HCw9 := Lib.hid hC
              clear hC hks
              go_wp2_with (fail)
              go_roundw
              case rel => exact ⟨k + 1, by omega, by go_num, Lib.hid (Grows.trans HG9.out HCw9.out)⟩
              case measure => simp [intOf]; omega
            · obtain ⟨j, hj⟩ : ∃ j, k - 1 = j := ⟨_, rfl⟩
              obtain ⟨ad2, y, hA2, hy, _, hcy⟩ := Uss.at (H7.out.1.grow HG9.out) (show j < m by omega)
              injection hA2 with hA2
              subst hA2
              have HCY := Lib.hid hcy
              have hlt2 : y.seg < x.seg := by
                have h1 := List.pairwise_iff_getElem.1 HF.out.1.ok.rise j k (List.getElem?_eq_some_iff.1 hy).1 (List.getElem?_eq_some_iff.1 hx).1 (by omega)
                rw [(List.getElem?_eq_some_iff.1 hy).2, (List.getElem?_eq_some_iff.1 hx).2] at h1
                exact h1
              obtain ⟨x0, x1, x2⟩ := x
              obtain ⟨y0, y1, y2⟩ := y
              have kj : (k : Int) - 1 = (j : Int) := by omega
              have kj0 : (0 : Int) ≤ (j : Int) := by omega
              have kj1 : (j : Int) < (m : Int) := by omega
              have HKI := Lib.hid (And.intro k0 (And.intro k1 (And.intro kj0 kj1)))
              have HBD := Lib.hid (show ¬ x2 < 0 ∧ ¬ x1 < x2 ∧ ¬ x0 < 0 from by dsimp only at hxe; omega)
              have HK0 := Lib.hid (show 0 < k from by omega)
              have HSS := Lib.hid (show ¬ x0 ≤ y0 from by dsimp only at hlt2; omega)
              have HKJ := Lib.hid (And.intro kj (wrapI (x := (j : Int)) (by omega) (by omega)))
              clear hcx hxe hx hbl hcy hy hlt2 hj
              go_wp2_with (fail)
              refine wp_region_facts (E := Grows) [valFact (.slice (some ad) m cw), valFact (.int .i64 (k : Int)), valFact (.pointer (some (ad.add (k * 3)))), valFact (.pointer (some { block := (ad.add (k * 3)).block, off := (ad.add (k * 3)).off + 2 })), valFact (.int .i64 x2), valFact (.bool false), valFact (.bool false), valFact (.slice (some ad) m cw), valFact (.int .i64 (k : Int)), valFact (.pointer (some (ad.add (k * 3)))), valFact (.pointer (some { block := (ad.add (k * 3)).block, off := (ad.add (k * 3)).off + 2 })), valFact (.int .i64 x2), valFact (.slice (some ad) m cw), valFact (.int .i64 (k : Int)), valFact (.pointer (some (ad.add (k * 3)))), valFact (.pointer (some { block := (ad.add (k * 3)).block, off := (ad.add (k * 3)).off + 1 })), valFact (.int .i64 x1), valFact (.bool false), valFact (.bool false), valFact (.bool false), valFact (.slice (some ad) m cw), valFact (.int .i64 (k : Int)), valFact (.pointer (some (ad.add (k * 3)))), valFact (.pointer (some (ad.add (k * 3)))), valFact (.int .i64 x0), valFact (.bool false), valFact (.bool false), valFact (.bool false), valFact (.int .i64 (k : Int)), valFact (.bool true), valFact (.bool true), valFact (.slice (some ad) m cw), valFact (.int .i64 (k : Int)), valFact (.pointer (some (ad.add (k * 3)))), valFact (.pointer (some (ad.add (k * 3)))), valFact (.int .i64 x0), valFact (.slice (some ad) m cw), valFact (.int .i64 (k : Int)), valFact (.int .i64 (j : Int)), valFact (.pointer (some (ad.add (j * 3)))), valFact (.pointer (some (ad.add (j * 3)))), valFact (.int .i64 y0), valFact (.bool false), valFact (.bool false), valFact (.bool false)] (by kernel_rfl) (by kernel_rfl) (fun _ _ _ => Grows.trans) (grows_drew _) ?_
              refine f_val (.slice (some ad) m cw) (by rfl) ?_ ?_
              · intro w' hC; clear hC; go_simp
              simp only [Act.put, List.setIfInBounds_toArray, List.set_cons_zero, List.set_cons_succ]
              refine f_val (.int .i64 (k : Int)) (by rfl) ?_ ?_
              · intro w' hC; clear hC; go_simp
              simp only [Act.put, List.setIfInBounds_toArray, List.set_cons_zero, List.set_cons_succ]
              refine f_val (.pointer (some (ad.add (k * 3)))) (by rfl) ?_ ?_
              · intro w' hC; have k0 := HKI.out; clear hC; go_simp
              simp only [Act.put, List.setIfInBounds_toArray, List.set_cons_zero, List.set_cons_succ]
              refine f_val (.pointer (some { block := (ad.add (k * 3)).block, off := (ad.add (k * 3)).off + 2 })) (by rfl) ?_ ?_
              · intro w' hC; clear hC; go_simp
              simp only [Act.put, List.setIfInBounds_toArray, List.set_cons_zero, List.set_cons_succ]
              refine f_val (.int .i64 x2) (by rfl) ?_ ?_
              · intro w' hC; have q := HCX.out w' hC; have q0 := q.1; have q1 := q.2.1; have q2 := q.2.2; clear hC; go_simp
              simp only [Act.put, List.setIfInBounds_toArray, List.set_cons_zero, List.set_cons_succ]
              refine f_val (.bool false) (by rfl) ?_ ?_
              · intro w' hC; have k0 := HBD.out; clear hC; go_simp
              simp only [Act.put, List.setIfInBounds_toArray, List.set_cons_zero, List.set_cons_succ]
              refine f_val (.bool false) (by rfl) ?_ ?_
              · intro w' hC; clear hC; go_simp
              simp only [Act.put, List.setIfInBounds_toArray, List.set_cons_zero, List.set_cons_succ]
              refine f_val (.slice (some ad) m cw) (by rfl) ?_ ?_
              · intro w' hC; clear hC; go_simp
              simp only [Act.put, List.setIfInBounds_toArray, List.set_cons_zero, List.set_cons_succ]
              refine f_val (.int .i64 (k : Int)) (by rfl) ?_ ?_
              · intro w' hC; clear hC; go_simp
              simp only [Act.put, List.setIfInBounds_toArray, List.set_cons_zero, List.set_cons_succ]
              refine f_val (.pointer (some (ad.add (k * 3)))) (by rfl) ?_ ?_
              · intro w' hC; have k0 := HKI.out; clear hC; go_simp
              simp only [Act.put, List.setIfInBounds_toArray, List.set_cons_zero, List.set_cons_succ]
              refine f_val (.pointer (some { block := (ad.add (k * 3)).block, off := (ad.add (k * 3)).off + 2 })) (by rfl) ?_ ?_
              · intro w' hC; clear hC; go_simp
              simp only [Act.put, List.setIfInBounds_toArray, List.set_cons_zero, List.set_cons_succ]
              refine f_val (.int .i64 x2) (by rfl) ?_ ?_
              · intro w' hC; have q := HCX.out w' hC; have q0 := q.1; have q1 := q.2.1; have q2 := q.2.2; clear hC; go_simp
              simp only [Act.put, List.setIfInBounds_toArray, List.set_cons_zero, List.set_cons_succ]
              refine f_val (.slice (some ad) m cw) (by rfl) ?_ ?_
              · intro w' hC; clear hC; go_simp
              simp only [Act.put, List.setIfInBounds_toArray, List.set_cons_zero, List.set_cons_succ]
              refine f_val (.int .i64 (k : Int)) (by rfl) ?_ ?_
              · intro w' hC; clear hC; go_simp
              simp only [Act.put, List.setIfInBounds_toArray, List.set_cons_zero, List.set_cons_succ]
              refine f_val (.pointer (some (ad.add (k * 3)))) (by rfl) ?_ ?_
              · intro w' hC; have k0 := HKI.out; clear hC; go_simp
              simp only [Act.put, List.setIfInBounds_toArray, List.set_cons_zero, List.set_cons_succ]
              refine f_val (.pointer (some { block := (ad.add (k * 3)).block, off := (ad.add (k * 3)).off + 1 })) (by rfl) ?_ ?_
              · intro w' hC; clear hC; go_simp
              simp only [Act.put, List.setIfInBounds_toArray, List.set_cons_zero, List.set_cons_succ]
              refine f_val (.int .i64 x1) (by rfl) ?_ ?_
              · intro w' hC; have q := HCX.out w' hC; have q0 := q.1; have q1 := q.2.1; have q2 := q.2.2; clear hC; go_simp
              simp only [Act.put, List.setIfInBounds_toArray, List.set_cons_zero, List.set_cons_succ]
              refine f_val (.bool false) (by rfl) ?_ ?_
              · intro w' hC; have k0 := HBD.out; clear hC; go_simp
              simp only [Act.put, List.setIfInBounds_toArray, List.set_cons_zero, List.set_cons_succ]
              refine f_val (.bool false) (by rfl) ?_ ?_
              · intro w' hC; clear hC; go_simp
              simp only [Act.put, List.setIfInBounds_toArray, List.set_cons_zero, List.set_cons_succ]
              refine f_val (.bool false) (by rfl) ?_ ?_
              · intro w' hC; clear hC; go_simp
              simp only [Act.put, List.setIfInBounds_toArray, List.set_cons_zero, List.set_cons_succ]
              refine f_val (.slice (some ad) m cw) (by rfl) ?_ ?_
              · intro w' hC; clear hC; go_simp
              simp only [Act.put, List.setIfInBounds_toArray, List.set_cons_zero, List.set_cons_succ]
              refine f_val (.int .i64 (k : Int)) (by rfl) ?_ ?_
              · intro w' hC; clear hC; go_simp
              simp only [Act.put, List.setIfInBounds_toArray, List.set_cons_zero, List.set_cons_succ]
              refine f_val (.pointer (some (ad.add (k * 3)))) (by rfl) ?_ ?_
              · intro w' hC; have k0 := HKI.out; clear hC; go_simp
              simp only [Act.put, List.setIfInBounds_toArray, List.set_cons_zero, List.set_cons_succ]
              refine f_val (.pointer (some (ad.add (k * 3)))) (by rfl) ?_ ?_
              · intro w' hC; clear hC; go_simp
              simp only [Act.put, List.setIfInBounds_toArray, List.set_cons_zero, List.set_cons_succ]
              refine f_val (.int .i64 x0) (by rfl) ?_ ?_
              · intro w' hC; have q := HCX.out w' hC; have q0 := q.1; have q1 := q.2.1; have q2 := q.2.2; clear hC; go_simp
              simp only [Act.put, List.setIfInBounds_toArray, List.set_cons_zero, List.set_cons_succ]
              refine f_val (.bool false) (by rfl) ?_ ?_
              · intro w' hC; have k0 := HBD.out; clear hC; go_simp
              simp only [Act.put, List.setIfInBounds_toArray, List.set_cons_zero, List.set_cons_succ]
              refine f_val (.bool false) (by rfl) ?_ ?_
              · intro w' hC; clear hC; go_simp
              simp only [Act.put, List.setIfInBounds_toArray, List.set_cons_zero, List.set_cons_succ]
              refine f_val (.bool false) (by rfl) ?_ ?_
              · intro w' hC; clear hC; go_simp
              simp only [Act.put, List.setIfInBounds_toArray, List.set_cons_zero, List.set_cons_succ]
              refine f_val (.int .i64 (k : Int)) (by rfl) ?_ ?_
              · intro w' hC; clear hC; go_simp
              simp only [Act.put, List.setIfInBounds_toArray, List.set_cons_zero, List.set_cons_succ]
              refine f_val (.bool true) (by rfl) ?_ ?_
              · intro w' hC; have k0 := HK0.out; clear hC; go_simp
              simp only [Act.put, List.setIfInBounds_toArray, List.set_cons_zero, List.set_cons_succ]
              refine f_val (.bool true) (by rfl) ?_ ?_
              · intro w' hC; clear hC; go_simp
              simp only [Act.put, List.setIfInBounds_toArray, List.set_cons_zero, List.set_cons_succ]
              refine f_val (.slice (some ad) m cw) (by rfl) ?_ ?_
              · intro w' hC; clear hC; go_simp
              simp only [Act.put, List.setIfInBounds_toArray, List.set_cons_zero, List.set_cons_succ]
              refine f_val (.int .i64 (k : Int)) (by rfl) ?_ ?_
              · intro w' hC; clear hC; go_simp
              simp only [Act.put, List.setIfInBounds_toArray, List.set_cons_zero, List.set_cons_succ]
              refine f_val (.pointer (some (ad.add (k * 3)))) (by rfl) ?_ ?_
              · intro w' hC; have k0 := HKI.out; clear hC; go_simp
              simp only [Act.put, List.setIfInBounds_toArray, List.set_cons_zero, List.set_cons_succ]
              refine f_val (.pointer (some (ad.add (k * 3)))) (by rfl) ?_ ?_
              · intro w' hC; clear hC; go_simp
              simp only [Act.put, List.setIfInBounds_toArray, List.set_cons_zero, List.set_cons_succ]
              refine f_val (.int .i64 x0) (by rfl) ?_ ?_
              · intro w' hC; have q := HCX.out w' hC; have q0 := q.1; have q1 := q.2.1; have q2 := q.2.2; clear hC; go_simp
              simp only [Act.put, List.setIfInBounds_toArray, List.set_cons_zero, List.set_cons_succ]
              refine f_val (.slice (some ad) m cw) (by rfl) ?_ ?_
              · intro w' hC; clear hC; go_simp
              simp only [Act.put, List.setIfInBounds_toArray, List.set_cons_zero, List.set_cons_succ]
              refine f_val (.int .i64 (k : Int)) (by rfl) ?_ ?_
              · intro w' hC; clear hC; go_simp
              simp only [Act.put, List.setIfInBounds_toArray, List.set_cons_zero, List.set_cons_succ]
              refine f_val (.int .i64 (j : Int)) (by rfl) ?_ ?_
              · intro w' hC; have k0 := HKJ.out; clear hC; go_simp
              simp only [Act.put, List.setIfInBounds_toArray, List.set_cons_zero, List.set_cons_succ]
              refine f_val (.pointer (some (ad.add (j * 3)))) (by rfl) ?_ ?_
              · intro w' hC; have k0 := HKI.out; clear hC; go_simp
              simp only [Act.put, List.setIfInBounds_toArray, List.set_cons_zero, List.set_cons_succ]
              refine f_val (.pointer (some (ad.add (j * 3)))) (by rfl) ?_ ?_
              · intro w' hC; clear hC; go_simp
              simp only [Act.put, List.setIfInBounds_toArray, List.set_cons_zero, List.set_cons_succ]
              refine f_val (.int .i64 y0) (by rfl) ?_ ?_
              · intro w' hC; have q := HCY.out w' hC; have q0 := q.1; clear hC; go_simp
              simp only [Act.put, List.setIfInBounds_toArray, List.set_cons_zero, List.set_cons_succ]
              refine f_val (.bool false) (by rfl) ?_ ?_
              · intro w' hC; have k0 := HSS.out; clear hC; go_simp
              simp only [Act.put, List.setIfInBounds_toArray, List.set_cons_zero, List.set_cons_succ]
              refine f_val (.bool false) (by rfl) ?_ ?_
              · intro w' hC; clear hC; go_simp
              simp only [Act.put, List.setIfInBounds_toArray, List.set_cons_zero, List.set_cons_succ]
              refine f_val (.bool false) (by rfl) ?_ ?_
              · intro w' hC; clear hC; go_simp
              simp only [Act.put, List.setIfInBounds_toArray, List.set_cons_zero, List.set_cons_succ]
              refine wpF_end ?_
              intro w9 hC hks
              have HCw9 := Lib.hid hC
              clear hC hks
              go_wp2_with (fail)
              go_roundw
              case rel => exact ⟨k + 1, by omega, by go_num, Lib.hid (Grows.trans HG9.out HCw9.out)⟩
              case measure => simp [intOf]; omega
          · obtain rfl : k = m := by omega
            have hgz := Grows.trans H7.out.2.1 HG9.out
            go_wp2_with (fail)
            go_roundw
            case rel => exact ⟨i + 1, nb + 1, l2, by omega, by go_num, by rw [HSA.out.1], by rw [HSA.out.2], Lib.hid (HF.out.1.grow hgz), Lib.hid (by have := HNN.out; omega), Lib.hid (Grows.trans HF.out.2 hgz)⟩
            case measure => have := HNN.out; simp [intOf]; omega
    · obtain rfl : i = n := by omega
      go_wp2_with (fail)
      go_ret
      exact ⟨rfl, HG.out⟩


set_option maxRecDepth 100000 in
theorem bookWithin_lifted (os : Os) (started : os.Started) (H : Type) (enc : TypeId × Value → H) :
    ReturnsInHanded {} Try.checked os 4 .any (Rows.bookWithinSpec.pre6 enc Try.prog Try.f4 Rows.bookWithinRow.domain false) (Rows.bookWithinSpec.post enc Try.prog Try.f4 false true false false) := by
  refine lift_law (C := Try.checked) H enc own started (by kernel_rfl) Try.func4
    (ChangeSpec.witness6 (enc := enc) (C := Try.checked) false ⟨#[], #[.slice none 0 0], []⟩ 16 (by kernel_rfl) (by kernel_rfl) (by kernel_rfl) (by kernel_rfl))
    laidOut (of_readable (by kernel_rfl)) rfl Try.underlying4 rfl (fun ds hd => ?_) (fun W base args ds p hval hA hsz => ?_)
  · match ds, hd with
    | [d1], _ => rfl
  · rw [Try.params4] at hA hval hsz
    obtain ⟨v0, vs0, d0, ds0, p0, q0, hargs, rfl, rfl, h0, r0⟩ := trodAll_cons hA
    obtain ⟨rfl, rfl, rfl⟩ := trodAll_nil r0
    obtain rfl : args = #[v0] := by cases args; simp_all
    obtain ⟨A0, n0, c0, xs0, rfl, hx0⟩ := open_ops12 (hval 0 22 v0 rfl rfl) h0
    exact bookWithin_law W A0 n0 c0 xs0 hx0

theorem bookWithin_over : Rows.bookWithinRow.holds Try.pinned (OpenSpec.ofChange Rows.bookWithinSpec) :=
  OpenClaim.holds_of_wide 4 Try.f4 rfl rfl rfl rfl rfl rfl rfl ⟨rfl, rfl, rfl, rfl, rfl⟩ rfl rfl rfl rfl rfl (by kernel_rfl) Try.func4 (by kernel_rfl)
    (of_decide_eq_true (by kernel_rfl)) (by unfold Func.isWrapper; first | (rw [if_pos (by decide +kernel)]; kernel_rfl) | (rw [if_neg (by decide +kernel)]; exact ⟨rfl, rfl⟩))
    (fun os started H enc _ => bookWithin_lifted os started H enc)
theorem bookWithin_holds : Rows.BookWithinSaid := bookWithin_over
end Go.Proofs.Ytlldcogkcjnejaa
