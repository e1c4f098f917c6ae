/-
  souterrainlaw12.BookApart: what is done to one segment changes no other one's, whatever the calls are (all of any list of at most 200).
-/
import Derived.Test.YtlldcogkcjnejaaBkOps
import Derived.Test.YtlldcogkcjnejaaBkMore
import Derived.ProofKit
import Derived.ChangeOld
namespace Go.Proofs.Ytlldcogkcjnejaa
open Go.Maps Go.Shelf Go.Sort Go.ChangeShapes Go.WideShapes Go.ChangeAt Go.RowKit
set_option linter.unusedSimpArgs false
set_option linter.unusedVariables false
attribute [local irreducible] wpF
attribute [local irreducible] Go.wpQuiet

set_option maxRecDepth 100000 in
set_option maxHeartbeats 8000000 in
theorem bookApart_law (w : World) (A : Option Addr) (n c : Nat) (os : List O12) (hx : Ops12 w A n c os) (sg : Int) (hsg : 0 ≤ sg ∧ sg < 256) :
    Calls Try.prog 6 #[.slice A n c, .int .u8 sg] w fun e w' => e = .returned (.bool true) ∧ Below w.heap.size w w' := by
  have HX := Lib.hid hx
  have HSG := Lib.hid hsg
  have wsg := (wrapI (x := sg) (by omega) (by omega))
  obtain ⟨wsg1, wsg2⟩ := wsg
  clear hx hsg
  go_enter Try.func6, Try.ntmps6
  go_wp2_with (fail)
  refine (head12_any w).mono ?_
  rintro e w0 ⟨rfl, hg0⟩
  have HG0 := Lib.hid hg0
  clear hg0
  go_wp2_with (fail)
  refine (new_any w0).mono ?_
  rintro e w1 ⟨pa, ba, rfl, hb1, hg1, hp1, hq1⟩
  have H1 := Lib.hid (And.intro hb1 (And.intro (Grows.trans HG0.out hg1) (show w.heap.size ≤ ba ∧ w.heap.size ≤ pa from by have := HG0.out.size; omega)))
  clear hb1 hg1 hp1 hq1
  go_wp2_with (fail)
  refine (new_any w1).mono ?_
  rintro e w2 ⟨pb, bb, rfl, hb2, hg2, hp2, hq2⟩
  have H2 := Lib.hid (show BkAt w2 pa ba 0 [] ∧ BkAt w2 pb bb 0 [] ∧ Grows w w2 from ⟨H1.out.1.grow hg2, hb2, Grows.trans H1.out.2.1 hg2⟩)
  have HAP := Lib.hid (show w.heap.size ≤ ba ∧ pb ≠ ba ∧ bb ≠ ba ∧ pa ≠ bb ∧ w.heap.size ≤ bb from by
    have h1 := H1.out.1.ltp
    have h2 := H1.out.1.ltb
    have h3 := H1.out.2.1.size
    exact ⟨H1.out.2.2.1, by omega, by omega, by omega, by omega⟩)
  clear hb2 hg2 hp2 hq2
  by_cases hn : 200 < n
  · go_wp2_with (fail)
    go_ret
    exact ⟨rfl, H2.out.2.2⟩
  have HN := Lib.hid hn
  go_wp2_with (fail)
  go_loopw [9, 10, 11, 12, 13, 14, 15, 16, 17, 18] (fun vi _ _ _ _ _ _ _ _ _ wr => ∃ (i na nb : Nat) (la lb : List Us), i ≤ n ∧ vi = .int .i64 (i : Int) ∧ Hid (BkAt wr pa ba na la) ∧ Hid (BkAt wr pb bb nb lb) ∧ Hid (na ≤ i ∧ nb ≤ i) ∧ Hid (ufind sg la = ufind sg lb) ∧ Hid (Grows w wr)) (fun vi _ _ _ _ _ _ _ _ _ _ => n - (intOf vi).toNat)
  case atStart => exact ⟨0, 0, 0, [], [], Nat.zero_le _, rfl, Lib.hid H2.out.1, Lib.hid H2.out.2.1, Lib.hid ⟨Nat.le_refl _, Nat.le_refl _⟩, Lib.hid rfl, Lib.hid H2.out.2.2⟩
  case round =>
    obtain ⟨i, na, nb, la, lb, hi, rfl, HA, HBB, HNB, HQ, HG⟩ := hrel
    by_cases hlt : i < n
    · have HNN := Lib.hid (show na ≤ i ∧ nb ≤ i ∧ i < 200 from by have := HNB.out; omega)
      clear hn
      obtain ⟨ad, ⟨qw, qs, qn, ql⟩, hA, hos, hbl, hok, hcs⟩ := Ops12.at (HX.out.grow HG.out) hlt
      subst hA
      obtain ⟨c0, c1, c2, c3⟩ := hcs wr (Grows.refl _)
      dsimp only at c0 c1 c2 c3
      have k0 : (0 : Int) ≤ (i : Int) := by omega
      have k1 : (i : Int) < (n : Int) := by omega
      obtain ⟨W1, hW1⟩ : ∃ W, wr.alloc (.cells #[.int .i64 qw, .int .i64 qs, .int .i64 qn, .bool ql] 29) = W := ⟨_, rfl⟩
      have hgW : Grows wr W1 := hW1 ▸ grows_alloc _ _
      have hmW : Whole W1 wr.heap.size 29 #[.int .i64 qw, .int .i64 qs, .int .i64 qn, .bool ql] := by rw [← hW1]; exact Whole.made _ _ _
      have HW := Lib.hid (And.intro hgW hmW)
      have HOS := Lib.hid (And.intro hos hok)
      have qq := HW.out.2
      have d0 := qq.cell 0
      have d1 := qq.cell 1
      have d2 := qq.cell 2
      have d3 := qq.cell 3
      simp only [List.getElem?_toArray, List.getElem?_cons_zero, List.getElem?_cons_succ] at d0 d1 d2 d3
      clear qq
      clear hos hok hbl hcs hgW hmW
      by_cases hown : qs = sg
      · subst hown
        have hoo : (qs == qs) = true := by simp
        by_cases hw3 : qw = 3
        · subst hw3
          obtain ⟨r, hr⟩ : ∃ r, killB qs qn la = r := ⟨_, rfl⟩
          have HR := Lib.hid hr
          clear hr
          have HCL := Lib.hid (show Calls Try.prog 12 #[.pointer (some ⟨pa, 0, none⟩), .int .i64 qs, .int .i64 qn] W1 (BkTo W1 pa ba na (killU qs qn la) r) from by
            have h0 := kill_use (HA.out.grow HW.out.1) (by have := HNN.out; omega) (k := qs) HOS.out.2.seg.1 HOS.out.2.seg.2 qn
            rw [show killB qs qn la = r from HR.out] at h0
            exact h0)
          go_wp2_with (first | rw [hW1] | fail)
          refine HCL.out.mono ?_
          rintro e w2 ⟨⟨rfl, hb, hs⟩, _⟩
          have HB2 := Lib.hid (show BkAt w2 pa ba (na + 1) (killU qs qn la) ∧ BkAt w2 pb bb nb lb ∧ Whole w2 wr.heap.size 29 #[.int .i64 3, .int .i64 qs, .int .i64 qn, .bool ql] ∧ Grows w w2 from
            ⟨hb, (HBB.out.grow HW.out.1).off hs HAP.out.2.1 HAP.out.2.2.1, (hs.same _ HW.out.2.lt (by have := HA.out.ltb; omega)).trans HW.out.2, grow_book (Grows.trans HG.out HW.out.1) hs HAP.out.1⟩)
          clear hb hs d0 d1 d2 d3 hW1 c0 c1 c2 c3
          have qq := HB2.out.2.2.1
          have d0 := qq.cell 0
          have d1 := qq.cell 1
          have d2 := qq.cell 2
          have d3 := qq.cell 3
          simp only [List.getElem?_toArray, List.getElem?_cons_zero, List.getElem?_cons_succ] at d0 d1 d2 d3
          clear qq
          have HRA := HR
          have HR := Lib.hid (show killB qs qn lb = r from by
            have h1 := HRA.out
            rw [← h1]
            exact (killB_eq (HQ.out)).symm)
          have HCL := Lib.hid (show Calls Try.prog 12 #[.pointer (some ⟨pb, 0, none⟩), .int .i64 qs, .int .i64 qn] w2 (BkTo w2 pb bb nb (killU qs qn lb) r) from by
            have h0 := kill_use HB2.out.2.1 (by have := HNN.out; omega) (k := qs) HOS.out.2.seg.1 HOS.out.2.seg.2 qn
            rw [show killB qs qn lb = r from HR.out] at h0
            exact h0)
          go_wp2_with (fail)
          refine HCL.out.mono ?_
          rintro e w3 ⟨⟨rfl, hb, hs⟩, _⟩
          have H3 := Lib.hid (show BkAt w3 pa ba (na + 1) (killU qs qn la) ∧ BkAt w3 pb bb (nb + 1) (killU qs qn lb) ∧ Grows w w3 ∧ ufind qs (killU qs qn la) = ufind qs (killU qs qn lb) ∧ na + 1 ≤ i + 1 ∧ nb + 1 ≤ i + 1 from
            ⟨HB2.out.1.off hs HAP.out.2.2.2.1 (fun e => HAP.out.2.2.1 e.symm), hb, grow_book HB2.out.2.2.2 hs HAP.out.2.2.2.2, killU_same HA.out.ok.rise HBB.out.ok.rise HQ.out, by have := HNN.out; omega, by have := HNN.out; omega⟩)
          clear hb hs d0 d1 d2 d3
          have hrr : (r != r) = false := by cases r <;> rfl
          obtain ⟨hh, hhe⟩ : ∃ z, hasU qs (killU qs qn la) = z := ⟨_, rfl⟩
          obtain ⟨⟨u0, u1, u2⟩, hue⟩ : ∃ z, useOf qs (killU qs qn la) = z := ⟨_, rfl⟩
          have HOA := Lib.hid (show ∀ W, BkAt W pa ba (na + 1) (killU qs qn la) → Calls Try.prog 18 #[.pointer (some ⟨pa, 0, none⟩), .int .i64 qs] W fun e w' => e = .returned (.tuple #[.agg #[.int .i64 u0, .int .i64 u1, .int .i64 u2], .bool hh]) ∧ Grows W w' from fun W hW => by
            have h0 := of_use hW (k := qs) (by have := HSG.out; omega) (by have := HSG.out; omega)
            rw [hhe, hue] at h0
            exact h0)
          have HOB := Lib.hid (show ∀ W, BkAt W pb bb (nb + 1) (killU qs qn lb) → Calls Try.prog 18 #[.pointer (some ⟨pb, 0, none⟩), .int .i64 qs] W fun e w' => e = .returned (.tuple #[.agg #[.int .i64 u0, .int .i64 u1, .int .i64 u2], .bool hh]) ∧ Grows W w' from fun W hW => by
            have h0 := of_use hW (k := qs) (by have := HSG.out; omega) (by have := HSG.out; omega)
            rw [← (useOf_eq H3.out.2.2.2.1).1, ← (useOf_eq H3.out.2.2.2.1).2, hhe, hue] at h0
            exact h0)
          clear hhe hue
          go_wp2_with (fail)
          refine (HOA.out w3 H3.out.1).mono ?_
          rintro e w4 ⟨rfl, hg4⟩
          obtain ⟨W4, hW4⟩ : ∃ W, w4.alloc (.cells #[.int .i64 u0, .int .i64 u1, .int .i64 u2] 34) = W := ⟨_, rfl⟩
          have H4 := Lib.hid (show Grows w3 W4 ∧ Whole W4 w4.heap.size 34 #[.int .i64 u0, .int .i64 u1, .int .i64 u2] from ⟨Grows.trans hg4 (hW4 ▸ grows_alloc _ _), by rw [← hW4]; exact Whole.made _ _ _⟩)
          clear hg4
          go_wp2_with (first | rw [hW4] | fail)
          clear hW4
          refine (HOB.out W4 (H3.out.2.1.grow H4.out.1)).mono ?_
          rintro e w5 ⟨rfl, hg5⟩
          obtain ⟨W5, hW5⟩ : ∃ W, w5.alloc (.cells #[.int .i64 u0, .int .i64 u1, .int .i64 u2] 34) = W := ⟨_, rfl⟩
          have H5 := Lib.hid (show Grows W4 W5 ∧ Whole W5 w5.heap.size 34 #[.int .i64 u0, .int .i64 u1, .int .i64 u2] from ⟨Grows.trans hg5 (hW5 ▸ grows_alloc _ _), by rw [← hW5]; exact Whole.made _ _ _⟩)
          clear hg5
          have q4 := H5.out.1.whole H4.out.2
          have e0 := q4.cell 0
          have e1 := q4.cell 1
          have e2 := q4.cell 2
          have f0 := H5.out.2.cell 0
          have f1 := H5.out.2.cell 1
          have f2 := H5.out.2.cell 2
          simp only [List.getElem?_toArray, List.getElem?_cons_zero, List.getElem?_cons_succ] at e0 e1 e2 f0 f1 f2
          have heq := fun w => show (Op.equalIn 10000 34 (.agg #[.int .i64 u0, .int .i64 u1, .int .i64 u2]) (.agg #[.int .i64 u0, .int .i64 u1, .int .i64 u2])).run Try.prog w = .ok true w from by rw [eq_use3]; simp
          have hhh : (hh != hh) = false := by cases hh <;> rfl
          clear q4
          go_wp2_with (first | rw [hW5] | fail)
          clear hW5 e0 e1 e2 f0 f1 f2 heq
          have hgz := Grows.trans H4.out.1 H5.out.1
          go_roundw
          case rel => exact ⟨i + 1, _, _, _, _, by omega, by go_num, Lib.hid (H3.out.1.grow hgz), Lib.hid (H3.out.2.1.grow hgz), Lib.hid ⟨H3.out.2.2.2.2.1, H3.out.2.2.2.2.2⟩, Lib.hid H3.out.2.2.2.1, Lib.hid (Grows.trans H3.out.2.2.1 hgz)⟩
          case measure => simp [intOf]; omega
        by_cases hw4 : qw = 4
        · subst hw4
          obtain ⟨r, hr⟩ : ∃ r, killB qs qn la = r := ⟨_, rfl⟩
          have HR := Lib.hid hr
          clear hr
          have HCL := Lib.hid (show Calls Try.prog 12 #[.pointer (some ⟨pa, 0, none⟩), .int .i64 qs, .int .i64 qn] W1 (BkTo W1 pa ba na (killU qs qn la) r) from by
            have h0 := kill_use (HA.out.grow HW.out.1) (by have := HNN.out; omega) (k := qs) HOS.out.2.seg.1 HOS.out.2.seg.2 qn
            rw [show killB qs qn la = r from HR.out] at h0
            exact h0)
          go_wp2_with (first | rw [hW1] | fail)
          refine HCL.out.mono ?_
          rintro e w2 ⟨⟨rfl, hb, hs⟩, _⟩
          have HB2 := Lib.hid (show BkAt w2 pa ba (na + 1) (killU qs qn la) ∧ BkAt w2 pb bb nb lb ∧ Whole w2 wr.heap.size 29 #[.int .i64 4, .int .i64 qs, .int .i64 qn, .bool ql] ∧ Grows w w2 from
            ⟨hb, (HBB.out.grow HW.out.1).off hs HAP.out.2.1 HAP.out.2.2.1, (hs.same _ HW.out.2.lt (by have := HA.out.ltb; omega)).trans HW.out.2, grow_book (Grows.trans HG.out HW.out.1) hs HAP.out.1⟩)
          clear hb hs d0 d1 d2 d3 hW1 c0 c1 c2 c3
          have qq := HB2.out.2.2.1
          have d0 := qq.cell 0
          have d1 := qq.cell 1
          have d2 := qq.cell 2
          have d3 := qq.cell 3
          simp only [List.getElem?_toArray, List.getElem?_cons_zero, List.getElem?_cons_succ] at d0 d1 d2 d3
          clear qq
          have HRA := HR
          have HR := Lib.hid (show killB qs qn lb = r from by
            have h1 := HRA.out
            rw [← h1]
            exact (killB_eq (HQ.out)).symm)
          have HCL := Lib.hid (show Calls Try.prog 12 #[.pointer (some ⟨pb, 0, none⟩), .int .i64 qs, .int .i64 qn] w2 (BkTo w2 pb bb nb (killU qs qn lb) r) from by
            have h0 := kill_use HB2.out.2.1 (by have := HNN.out; omega) (k := qs) HOS.out.2.seg.1 HOS.out.2.seg.2 qn
            rw [show killB qs qn lb = r from HR.out] at h0
            exact h0)
          go_wp2_with (fail)
          refine HCL.out.mono ?_
          rintro e w3 ⟨⟨rfl, hb, hs⟩, _⟩
          have H3 := Lib.hid (show BkAt w3 pa ba (na + 1) (killU qs qn la) ∧ BkAt w3 pb bb (nb + 1) (killU qs qn lb) ∧ Grows w w3 ∧ ufind qs (killU qs qn la) = ufind qs (killU qs qn lb) ∧ na + 1 ≤ i + 1 ∧ nb + 1 ≤ i + 1 from
            ⟨HB2.out.1.off hs HAP.out.2.2.2.1 (fun e => HAP.out.2.2.1 e.symm), hb, grow_book HB2.out.2.2.2 hs HAP.out.2.2.2.2, killU_same HA.out.ok.rise HBB.out.ok.rise HQ.out, by have := HNN.out; omega, by have := HNN.out; omega⟩)
          clear hb hs d0 d1 d2 d3
          have hrr : (r != r) = false := by cases r <;> rfl
          obtain ⟨hh, hhe⟩ : ∃ z, hasU qs (killU qs qn la) = z := ⟨_, rfl⟩
          obtain ⟨⟨u0, u1, u2⟩, hue⟩ : ∃ z, useOf qs (killU qs qn la) = z := ⟨_, rfl⟩
          have HOA := Lib.hid (show ∀ W, BkAt W pa ba (na + 1) (killU qs qn la) → Calls Try.prog 18 #[.pointer (some ⟨pa, 0, none⟩), .int .i64 qs] W fun e w' => e = .returned (.tuple #[.agg #[.int .i64 u0, .int .i64 u1, .int .i64 u2], .bool hh]) ∧ Grows W w' from fun W hW => by
            have h0 := of_use hW (k := qs) (by have := HSG.out; omega) (by have := HSG.out; omega)
            rw [hhe, hue] at h0
            exact h0)
          have HOB := Lib.hid (show ∀ W, BkAt W pb bb (nb + 1) (killU qs qn lb) → Calls Try.prog 18 #[.pointer (some ⟨pb, 0, none⟩), .int .i64 qs] W fun e w' => e = .returned (.tuple #[.agg #[.int .i64 u0, .int .i64 u1, .int .i64 u2], .bool hh]) ∧ Grows W w' from fun W hW => by
            have h0 := of_use hW (k := qs) (by have := HSG.out; omega) (by have := HSG.out; omega)
            rw [← (useOf_eq H3.out.2.2.2.1).1, ← (useOf_eq H3.out.2.2.2.1).2, hhe, hue] at h0
            exact h0)
          clear hhe hue
          go_wp2_with (fail)
          refine (HOA.out w3 H3.out.1).mono ?_
          rintro e w4 ⟨rfl, hg4⟩
          obtain ⟨W4, hW4⟩ : ∃ W, w4.alloc (.cells #[.int .i64 u0, .int .i64 u1, .int .i64 u2] 34) = W := ⟨_, rfl⟩
          have H4 := Lib.hid (show Grows w3 W4 ∧ Whole W4 w4.heap.size 34 #[.int .i64 u0, .int .i64 u1, .int .i64 u2] from ⟨Grows.trans hg4 (hW4 ▸ grows_alloc _ _), by rw [← hW4]; exact Whole.made _ _ _⟩)
          clear hg4
          go_wp2_with (first | rw [hW4] | fail)
          clear hW4
          refine (HOB.out W4 (H3.out.2.1.grow H4.out.1)).mono ?_
          rintro e w5 ⟨rfl, hg5⟩
          obtain ⟨W5, hW5⟩ : ∃ W, w5.alloc (.cells #[.int .i64 u0, .int .i64 u1, .int .i64 u2] 34) = W := ⟨_, rfl⟩
          have H5 := Lib.hid (show Grows W4 W5 ∧ Whole W5 w5.heap.size 34 #[.int .i64 u0, .int .i64 u1, .int .i64 u2] from ⟨Grows.trans hg5 (hW5 ▸ grows_alloc _ _), by rw [← hW5]; exact Whole.made _ _ _⟩)
          clear hg5
          have q4 := H5.out.1.whole H4.out.2
          have e0 := q4.cell 0
          have e1 := q4.cell 1
          have e2 := q4.cell 2
          have f0 := H5.out.2.cell 0
          have f1 := H5.out.2.cell 1
          have f2 := H5.out.2.cell 2
          simp only [List.getElem?_toArray, List.getElem?_cons_zero, List.getElem?_cons_succ] at e0 e1 e2 f0 f1 f2
          have heq := fun w => show (Op.equalIn 10000 34 (.agg #[.int .i64 u0, .int .i64 u1, .int .i64 u2]) (.agg #[.int .i64 u0, .int .i64 u1, .int .i64 u2])).run Try.prog w = .ok true w from by rw [eq_use3]; simp
          have hhh : (hh != hh) = false := by cases hh <;> rfl
          clear q4
          go_wp2_with (first | rw [hW5] | fail)
          clear hW5 e0 e1 e2 f0 f1 f2 heq
          have hgz := Grows.trans H4.out.1 H5.out.1
          go_roundw
          case rel => exact ⟨i + 1, _, _, _, _, by omega, by go_num, Lib.hid (H3.out.1.grow hgz), Lib.hid (H3.out.2.1.grow hgz), Lib.hid ⟨H3.out.2.2.2.2.1, H3.out.2.2.2.2.2⟩, Lib.hid H3.out.2.2.2.1, Lib.hid (Grows.trans H3.out.2.2.1 hgz)⟩
          case measure => simp [intOf]; omega
        by_cases hw5 : qw = 5
        · subst hw5
          obtain ⟨r, hr⟩ : ∃ r, hasU qs la = r := ⟨_, rfl⟩
          have HR := Lib.hid hr
          clear hr
          have HCL := Lib.hid (show Calls Try.prog 14 #[.pointer (some ⟨pa, 0, none⟩), .int .i64 qs] W1 (BkTo0 W1 pa ba na (dropU qs la) r) from by
            have h0 := drop_use (HA.out.grow HW.out.1) (k := qs) HOS.out.2.seg.1 HOS.out.2.seg.2
            rw [show hasU qs la = r from HR.out] at h0
            exact h0)
          go_wp2_with (first | rw [hW1] | fail)
          refine HCL.out.mono ?_
          rintro e w2 ⟨rfl, hb, hs⟩
          have HB2 := Lib.hid (show BkAt w2 pa ba (na + 1) (dropU qs la) ∧ BkAt w2 pb bb nb lb ∧ Whole w2 wr.heap.size 29 #[.int .i64 5, .int .i64 qs, .int .i64 qn, .bool ql] ∧ Grows w w2 from
            ⟨hb, (HBB.out.grow HW.out.1).off hs HAP.out.2.1 HAP.out.2.2.1, (hs.same _ HW.out.2.lt (by have := HA.out.ltb; omega)).trans HW.out.2, grow_book (Grows.trans HG.out HW.out.1) hs HAP.out.1⟩)
          clear hb hs d0 d1 d2 d3 hW1 c0 c1 c2 c3
          have qq := HB2.out.2.2.1
          have d0 := qq.cell 0
          have d1 := qq.cell 1
          have d2 := qq.cell 2
          have d3 := qq.cell 3
          simp only [List.getElem?_toArray, List.getElem?_cons_zero, List.getElem?_cons_succ] at d0 d1 d2 d3
          clear qq
          have HRA := HR
          have HR := Lib.hid (show hasU qs lb = r from by
            have h1 := HRA.out
            rw [← h1]
            exact (useOf_eq HQ.out).2.symm)
          have HCL := Lib.hid (show Calls Try.prog 14 #[.pointer (some ⟨pb, 0, none⟩), .int .i64 qs] w2 (BkTo0 w2 pb bb nb (dropU qs lb) r) from by
            have h0 := drop_use HB2.out.2.1 (k := qs) HOS.out.2.seg.1 HOS.out.2.seg.2
            rw [show hasU qs lb = r from HR.out] at h0
            exact h0)
          go_wp2_with (fail)
          refine HCL.out.mono ?_
          rintro e w3 ⟨rfl, hb, hs⟩
          have H3 := Lib.hid (show BkAt w3 pa ba (na + 1) (dropU qs la) ∧ BkAt w3 pb bb (nb + 1) (dropU qs lb) ∧ Grows w w3 ∧ ufind qs (dropU qs la) = ufind qs (dropU qs lb) ∧ na + 1 ≤ i + 1 ∧ nb + 1 ≤ i + 1 from
            ⟨HB2.out.1.off hs HAP.out.2.2.2.1 (fun e => HAP.out.2.2.1 e.symm), hb, grow_book HB2.out.2.2.2 hs HAP.out.2.2.2.2, dropU_same HA.out.ok.rise HBB.out.ok.rise, by have := HNN.out; omega, by have := HNN.out; omega⟩)
          clear hb hs d0 d1 d2 d3
          have hrr : (r != r) = false := by cases r <;> rfl
          obtain ⟨hh, hhe⟩ : ∃ z, hasU qs (dropU qs la) = z := ⟨_, rfl⟩
          obtain ⟨⟨u0, u1, u2⟩, hue⟩ : ∃ z, useOf qs (dropU qs la) = z := ⟨_, rfl⟩
          have HOA := Lib.hid (show ∀ W, BkAt W pa ba (na + 1) (dropU qs la) → Calls Try.prog 18 #[.pointer (some ⟨pa, 0, none⟩), .int .i64 qs] W fun e w' => e = .returned (.tuple #[.agg #[.int .i64 u0, .int .i64 u1, .int .i64 u2], .bool hh]) ∧ Grows W w' from fun W hW => by
            have h0 := of_use hW (k := qs) (by have := HSG.out; omega) (by have := HSG.out; omega)
            rw [hhe, hue] at h0
            exact h0)
          have HOB := Lib.hid (show ∀ W, BkAt W pb bb (nb + 1) (dropU qs lb) → Calls Try.prog 18 #[.pointer (some ⟨pb, 0, none⟩), .int .i64 qs] W fun e w' => e = .returned (.tuple #[.agg #[.int .i64 u0, .int .i64 u1, .int .i64 u2], .bool hh]) ∧ Grows W w' from fun W hW => by
            have h0 := of_use hW (k := qs) (by have := HSG.out; omega) (by have := HSG.out; omega)
            rw [← (useOf_eq H3.out.2.2.2.1).1, ← (useOf_eq H3.out.2.2.2.1).2, hhe, hue] at h0
            exact h0)
          clear hhe hue
          go_wp2_with (fail)
          refine (HOA.out w3 H3.out.1).mono ?_
          rintro e w4 ⟨rfl, hg4⟩
          obtain ⟨W4, hW4⟩ : ∃ W, w4.alloc (.cells #[.int .i64 u0, .int .i64 u1, .int .i64 u2] 34) = W := ⟨_, rfl⟩
          have H4 := Lib.hid (show Grows w3 W4 ∧ Whole W4 w4.heap.size 34 #[.int .i64 u0, .int .i64 u1, .int .i64 u2] from ⟨Grows.trans hg4 (hW4 ▸ grows_alloc _ _), by rw [← hW4]; exact Whole.made _ _ _⟩)
          clear hg4
          go_wp2_with (first | rw [hW4] | fail)
          clear hW4
          refine (HOB.out W4 (H3.out.2.1.grow H4.out.1)).mono ?_
          rintro e w5 ⟨rfl, hg5⟩
          obtain ⟨W5, hW5⟩ : ∃ W, w5.alloc (.cells #[.int .i64 u0, .int .i64 u1, .int .i64 u2] 34) = W := ⟨_, rfl⟩
          have H5 := Lib.hid (show Grows W4 W5 ∧ Whole W5 w5.heap.size 34 #[.int .i64 u0, .int .i64 u1, .int .i64 u2] from ⟨Grows.trans hg5 (hW5 ▸ grows_alloc _ _), by rw [← hW5]; exact Whole.made _ _ _⟩)
          clear hg5
          have q4 := H5.out.1.whole H4.out.2
          have e0 := q4.cell 0
          have e1 := q4.cell 1
          have e2 := q4.cell 2
          have f0 := H5.out.2.cell 0
          have f1 := H5.out.2.cell 1
          have f2 := H5.out.2.cell 2
          simp only [List.getElem?_toArray, List.getElem?_cons_zero, List.getElem?_cons_succ] at e0 e1 e2 f0 f1 f2
          have heq := fun w => show (Op.equalIn 10000 34 (.agg #[.int .i64 u0, .int .i64 u1, .int .i64 u2]) (.agg #[.int .i64 u0, .int .i64 u1, .int .i64 u2])).run Try.prog w = .ok true w from by rw [eq_use3]; simp
          have hhh : (hh != hh) = false := by cases hh <;> rfl
          clear q4
          go_wp2_with (first | rw [hW5] | fail)
          clear hW5 e0 e1 e2 f0 f1 f2 heq
          have hgz := Grows.trans H4.out.1 H5.out.1
          go_roundw
          case rel => exact ⟨i + 1, _, _, _, _, by omega, by go_num, Lib.hid (H3.out.1.grow hgz), Lib.hid (H3.out.2.1.grow hgz), Lib.hid ⟨H3.out.2.2.2.2.1, H3.out.2.2.2.2.2⟩, Lib.hid H3.out.2.2.2.1, Lib.hid (Grows.trans H3.out.2.2.1 hgz)⟩
          case measure => simp [intOf]; omega
        have g3 : (qw == 3) = false := by rw [beq_eq_false_iff_ne]; exact hw3
        have g4 : (qw == 4) = false := by rw [beq_eq_false_iff_ne]; exact hw4
        have g5 : (qw == 5) = false := by rw [beq_eq_false_iff_ne]; exact hw5
        clear hw3 hw4 hw5
        obtain ⟨r, hr⟩ : ∃ r, putB qs qn la = r := ⟨_, rfl⟩
        have HR := Lib.hid hr
        clear hr
        have HCL := Lib.hid (show Calls Try.prog 16 #[.pointer (some ⟨pa, 0, none⟩), .int .i64 qs, .int .i64 qn, .bool ql] W1 (BkTo W1 pa ba na (putU qs qn ql la) r) from by
          have h0 := put_use (HA.out.grow HW.out.1) (by have := HNN.out; omega) (k := qs) HOS.out.2.seg.1 HOS.out.2.seg.2 qn ql
          rw [show putB qs qn la = r from HR.out] at h0
          exact h0)
        go_wp2_with (first | rw [hW1] | fail)
        refine HCL.out.mono ?_
        rintro e w2 ⟨⟨rfl, hb, hs⟩, _⟩
        have HB2 := Lib.hid (show BkAt w2 pa ba (na + 1) (putU qs qn ql la) ∧ BkAt w2 pb bb nb lb ∧ Whole w2 wr.heap.size 29 #[.int .i64 qw, .int .i64 qs, .int .i64 qn, .bool ql] ∧ Grows w w2 from
          ⟨hb, (HBB.out.grow HW.out.1).off hs HAP.out.2.1 HAP.out.2.2.1, (hs.same _ HW.out.2.lt (by have := HA.out.ltb; omega)).trans HW.out.2, grow_book (Grows.trans HG.out HW.out.1) hs HAP.out.1⟩)
        clear hb hs d0 d1 d2 d3 hW1 c0 c1 c2 c3
        have qq := HB2.out.2.2.1
        have d0 := qq.cell 0
        have d1 := qq.cell 1
        have d2 := qq.cell 2
        have d3 := qq.cell 3
        simp only [List.getElem?_toArray, List.getElem?_cons_zero, List.getElem?_cons_succ] at d0 d1 d2 d3
        clear qq
        have HRA := HR
        have HR := Lib.hid (show putB qs qn lb = r from by
          have h1 := HRA.out
          rw [← h1]
          exact (putB_eq (HQ.out)).symm)
        have HCL := Lib.hid (show Calls Try.prog 16 #[.pointer (some ⟨pb, 0, none⟩), .int .i64 qs, .int .i64 qn, .bool ql] w2 (BkTo w2 pb bb nb (putU qs qn ql lb) r) from by
          have h0 := put_use HB2.out.2.1 (by have := HNN.out; omega) (k := qs) HOS.out.2.seg.1 HOS.out.2.seg.2 qn ql
          rw [show putB qs qn lb = r from HR.out] at h0
          exact h0)
        go_wp2_with (fail)
        refine HCL.out.mono ?_
        rintro e w3 ⟨⟨rfl, hb, hs⟩, _⟩
        have H3 := Lib.hid (show BkAt w3 pa ba (na + 1) (putU qs qn ql la) ∧ BkAt w3 pb bb (nb + 1) (putU qs qn ql lb) ∧ Grows w w3 ∧ ufind qs (putU qs qn ql la) = ufind qs (putU qs qn ql lb) ∧ na + 1 ≤ i + 1 ∧ nb + 1 ≤ i + 1 from
          ⟨HB2.out.1.off hs HAP.out.2.2.2.1 (fun e => HAP.out.2.2.1 e.symm), hb, grow_book HB2.out.2.2.2 hs HAP.out.2.2.2.2, putU_same HA.out.ok.rise HBB.out.ok.rise HQ.out, by have := HNN.out; omega, by have := HNN.out; omega⟩)
        clear hb hs d0 d1 d2 d3
        have hrr : (r != r) = false := by cases r <;> rfl
        obtain ⟨hh, hhe⟩ : ∃ z, hasU qs (putU qs qn ql la) = z := ⟨_, rfl⟩
        obtain ⟨⟨u0, u1, u2⟩, hue⟩ : ∃ z, useOf qs (putU qs qn ql la) = z := ⟨_, rfl⟩
        have HOA := Lib.hid (show ∀ W, BkAt W pa ba (na + 1) (putU qs qn ql la) → Calls Try.prog 18 #[.pointer (some ⟨pa, 0, none⟩), .int .i64 qs] W fun e w' => e = .returned (.tuple #[.agg #[.int .i64 u0, .int .i64 u1, .int .i64 u2], .bool hh]) ∧ Grows W w' from fun W hW => by
          have h0 := of_use hW (k := qs) (by have := HSG.out; omega) (by have := HSG.out; omega)
          rw [hhe, hue] at h0
          exact h0)
        have HOB := Lib.hid (show ∀ W, BkAt W pb bb (nb + 1) (putU qs qn ql lb) → Calls Try.prog 18 #[.pointer (some ⟨pb, 0, none⟩), .int .i64 qs] W fun e w' => e = .returned (.tuple #[.agg #[.int .i64 u0, .int .i64 u1, .int .i64 u2], .bool hh]) ∧ Grows W w' from fun W hW => by
          have h0 := of_use hW (k := qs) (by have := HSG.out; omega) (by have := HSG.out; omega)
          rw [← (useOf_eq H3.out.2.2.2.1).1, ← (useOf_eq H3.out.2.2.2.1).2, hhe, hue] at h0
          exact h0)
        clear hhe hue
        go_wp2_with (fail)
        refine (HOA.out w3 H3.out.1).mono ?_
        rintro e w4 ⟨rfl, hg4⟩
        obtain ⟨W4, hW4⟩ : ∃ W, w4.alloc (.cells #[.int .i64 u0, .int .i64 u1, .int .i64 u2] 34) = W := ⟨_, rfl⟩
        have H4 := Lib.hid (show Grows w3 W4 ∧ Whole W4 w4.heap.size 34 #[.int .i64 u0, .int .i64 u1, .int .i64 u2] from ⟨Grows.trans hg4 (hW4 ▸ grows_alloc _ _), by rw [← hW4]; exact Whole.made _ _ _⟩)
        clear hg4
        go_wp2_with (first | rw [hW4] | fail)
        clear hW4
        refine (HOB.out W4 (H3.out.2.1.grow H4.out.1)).mono ?_
        rintro e w5 ⟨rfl, hg5⟩
        obtain ⟨W5, hW5⟩ : ∃ W, w5.alloc (.cells #[.int .i64 u0, .int .i64 u1, .int .i64 u2] 34) = W := ⟨_, rfl⟩
        have H5 := Lib.hid (show Grows W4 W5 ∧ Whole W5 w5.heap.size 34 #[.int .i64 u0, .int .i64 u1, .int .i64 u2] from ⟨Grows.trans hg5 (hW5 ▸ grows_alloc _ _), by rw [← hW5]; exact Whole.made _ _ _⟩)
        clear hg5
        have q4 := H5.out.1.whole H4.out.2
        have e0 := q4.cell 0
        have e1 := q4.cell 1
        have e2 := q4.cell 2
        have f0 := H5.out.2.cell 0
        have f1 := H5.out.2.cell 1
        have f2 := H5.out.2.cell 2
        simp only [List.getElem?_toArray, List.getElem?_cons_zero, List.getElem?_cons_succ] at e0 e1 e2 f0 f1 f2
        have heq := fun w => show (Op.equalIn 10000 34 (.agg #[.int .i64 u0, .int .i64 u1, .int .i64 u2]) (.agg #[.int .i64 u0, .int .i64 u1, .int .i64 u2])).run Try.prog w = .ok true w from by rw [eq_use3]; simp
        have hhh : (hh != hh) = false := by cases hh <;> rfl
        clear q4
        go_wp2_with (first | rw [hW5] | fail)
        clear hW5 e0 e1 e2 f0 f1 f2 heq
        have hgz := Grows.trans H4.out.1 H5.out.1
        go_roundw
        case rel => exact ⟨i + 1, _, _, _, _, by omega, by go_num, Lib.hid (H3.out.1.grow hgz), Lib.hid (H3.out.2.1.grow hgz), Lib.hid ⟨H3.out.2.2.2.2.1, H3.out.2.2.2.2.2⟩, Lib.hid H3.out.2.2.2.1, Lib.hid (Grows.trans H3.out.2.2.1 hgz)⟩
        case measure => simp [intOf]; omega
      · have HE := Lib.hid hown
        have hoo : (qs == sg) = false := by rw [beq_eq_false_iff_ne]; exact hown
        clear hown
        by_cases hw3 : qw = 3
        · subst hw3
          obtain ⟨r, hr⟩ : ∃ r, killB qs qn la = r := ⟨_, rfl⟩
          have HR := Lib.hid hr
          clear hr
          have HCL := Lib.hid (show Calls Try.prog 12 #[.pointer (some ⟨pa, 0, none⟩), .int .i64 qs, .int .i64 qn] W1 (BkTo W1 pa ba na (killU qs qn la) r) from by
            have h0 := kill_use (HA.out.grow HW.out.1) (by have := HNN.out; omega) (k := qs) HOS.out.2.seg.1 HOS.out.2.seg.2 qn
            rw [show killB qs qn la = r from HR.out] at h0
            exact h0)
          go_wp2_with (first | rw [hW1] | fail)
          refine HCL.out.mono ?_
          rintro e w2 ⟨⟨rfl, hb, hs⟩, _⟩
          have HB2 := Lib.hid (show BkAt w2 pa ba (na + 1) (killU qs qn la) ∧ BkAt w2 pb bb nb lb ∧ Whole w2 wr.heap.size 29 #[.int .i64 3, .int .i64 qs, .int .i64 qn, .bool ql] ∧ Grows w w2 from
            ⟨hb, (HBB.out.grow HW.out.1).off hs HAP.out.2.1 HAP.out.2.2.1, (hs.same _ HW.out.2.lt (by have := HA.out.ltb; omega)).trans HW.out.2, grow_book (Grows.trans HG.out HW.out.1) hs HAP.out.1⟩)
          clear hb hs d0 d1 d2 d3 hW1 c0 c1 c2 c3
          have qq := HB2.out.2.2.1
          have d0 := qq.cell 0
          have d1 := qq.cell 1
          have d2 := qq.cell 2
          have d3 := qq.cell 3
          simp only [List.getElem?_toArray, List.getElem?_cons_zero, List.getElem?_cons_succ] at d0 d1 d2 d3
          clear qq
          have H3 := Lib.hid (show BkAt w2 pa ba (na + 1) (killU qs qn la) ∧ BkAt w2 pb bb nb lb ∧ Grows w w2 ∧ ufind sg (killU qs qn la) = ufind sg lb ∧ na + 1 ≤ i + 1 ∧ nb ≤ i + 1 from
            ⟨HB2.out.1, HB2.out.2.1, HB2.out.2.2.2, (killU_other HA.out.ok.rise HE.out).trans HQ.out, by have := HNN.out; omega, by have := HNN.out; omega⟩)
          obtain ⟨hh, hhe⟩ : ∃ z, hasU sg (killU qs qn la) = z := ⟨_, rfl⟩
          obtain ⟨⟨u0, u1, u2⟩, hue⟩ : ∃ z, useOf sg (killU qs qn la) = z := ⟨_, rfl⟩
          have HOA := Lib.hid (show ∀ W, BkAt W pa ba (na + 1) (killU qs qn la) → Calls Try.prog 18 #[.pointer (some ⟨pa, 0, none⟩), .int .i64 sg] W fun e w' => e = .returned (.tuple #[.agg #[.int .i64 u0, .int .i64 u1, .int .i64 u2], .bool hh]) ∧ Grows W w' from fun W hW => by
            have h0 := of_use hW (k := sg) (by have := HSG.out; omega) (by have := HSG.out; omega)
            rw [hhe, hue] at h0
            exact h0)
          have HOB := Lib.hid (show ∀ W, BkAt W pb bb nb (lb) → Calls Try.prog 18 #[.pointer (some ⟨pb, 0, none⟩), .int .i64 sg] W fun e w' => e = .returned (.tuple #[.agg #[.int .i64 u0, .int .i64 u1, .int .i64 u2], .bool hh]) ∧ Grows W w' from fun W hW => by
            have h0 := of_use hW (k := sg) (by have := HSG.out; omega) (by have := HSG.out; omega)
            rw [← (useOf_eq H3.out.2.2.2.1).1, ← (useOf_eq H3.out.2.2.2.1).2, hhe, hue] at h0
            exact h0)
          clear hhe hue
          go_wp2_with (fail)
          refine (HOA.out w2 H3.out.1).mono ?_
          rintro e w4 ⟨rfl, hg4⟩
          obtain ⟨W4, hW4⟩ : ∃ W, w4.alloc (.cells #[.int .i64 u0, .int .i64 u1, .int .i64 u2] 34) = W := ⟨_, rfl⟩
          have H4 := Lib.hid (show Grows w2 W4 ∧ Whole W4 w4.heap.size 34 #[.int .i64 u0, .int .i64 u1, .int .i64 u2] from ⟨Grows.trans hg4 (hW4 ▸ grows_alloc _ _), by rw [← hW4]; exact Whole.made _ _ _⟩)
          clear hg4
          go_wp2_with (first | rw [hW4] | fail)
          clear hW4
          refine (HOB.out W4 (H3.out.2.1.grow H4.out.1)).mono ?_
          rintro e w5 ⟨rfl, hg5⟩
          obtain ⟨W5, hW5⟩ : ∃ W, w5.alloc (.cells #[.int .i64 u0, .int .i64 u1, .int .i64 u2] 34) = W := ⟨_, rfl⟩
          have H5 := Lib.hid (show Grows W4 W5 ∧ Whole W5 w5.heap.size 34 #[.int .i64 u0, .int .i64 u1, .int .i64 u2] from ⟨Grows.trans hg5 (hW5 ▸ grows_alloc _ _), by rw [← hW5]; exact Whole.made _ _ _⟩)
          clear hg5
          have q4 := H5.out.1.whole H4.out.2
          have e0 := q4.cell 0
          have e1 := q4.cell 1
          have e2 := q4.cell 2
          have f0 := H5.out.2.cell 0
          have f1 := H5.out.2.cell 1
          have f2 := H5.out.2.cell 2
          simp only [List.getElem?_toArray, List.getElem?_cons_zero, List.getElem?_cons_succ] at e0 e1 e2 f0 f1 f2
          have heq := fun w => show (Op.equalIn 10000 34 (.agg #[.int .i64 u0, .int .i64 u1, .int .i64 u2]) (.agg #[.int .i64 u0, .int .i64 u1, .int .i64 u2])).run Try.prog w = .ok true w from by rw [eq_use3]; simp
          have hhh : (hh != hh) = false := by cases hh <;> rfl
          clear q4
          go_wp2_with (first | rw [hW5] | fail)
          clear hW5 e0 e1 e2 f0 f1 f2 heq
          have hgz := Grows.trans H4.out.1 H5.out.1
          go_roundw
          case rel => exact ⟨i + 1, _, _, _, _, by omega, by go_num, Lib.hid (H3.out.1.grow hgz), Lib.hid (H3.out.2.1.grow hgz), Lib.hid ⟨H3.out.2.2.2.2.1, H3.out.2.2.2.2.2⟩, Lib.hid H3.out.2.2.2.1, Lib.hid (Grows.trans H3.out.2.2.1 hgz)⟩
          case measure => simp [intOf]; omega
        by_cases hw4 : qw = 4
        · subst hw4
          obtain ⟨r, hr⟩ : ∃ r, killB qs qn la = r := ⟨_, rfl⟩
          have HR := Lib.hid hr
          clear hr
          have HCL := Lib.hid (show Calls Try.prog 12 #[.pointer (some ⟨pa, 0, none⟩), .int .i64 qs, .int .i64 qn] W1 (BkTo W1 pa ba na (killU qs qn la) r) from by
            have h0 := kill_use (HA.out.grow HW.out.1) (by have := HNN.out; omega) (k := qs) HOS.out.2.seg.1 HOS.out.2.seg.2 qn
            rw [show killB qs qn la = r from HR.out] at h0
            exact h0)
          go_wp2_with (first | rw [hW1] | fail)
          refine HCL.out.mono ?_
          rintro e w2 ⟨⟨rfl, hb, hs⟩, _⟩
          have HB2 := Lib.hid (show BkAt w2 pa ba (na + 1) (killU qs qn la) ∧ BkAt w2 pb bb nb lb ∧ Whole w2 wr.heap.size 29 #[.int .i64 4, .int .i64 qs, .int .i64 qn, .bool ql] ∧ Grows w w2 from
            ⟨hb, (HBB.out.grow HW.out.1).off hs HAP.out.2.1 HAP.out.2.2.1, (hs.same _ HW.out.2.lt (by have := HA.out.ltb; omega)).trans HW.out.2, grow_book (Grows.trans HG.out HW.out.1) hs HAP.out.1⟩)
          clear hb hs d0 d1 d2 d3 hW1 c0 c1 c2 c3
          have qq := HB2.out.2.2.1
          have d0 := qq.cell 0
          have d1 := qq.cell 1
          have d2 := qq.cell 2
          have d3 := qq.cell 3
          simp only [List.getElem?_toArray, List.getElem?_cons_zero, List.getElem?_cons_succ] at d0 d1 d2 d3
          clear qq
          have H3 := Lib.hid (show BkAt w2 pa ba (na + 1) (killU qs qn la) ∧ BkAt w2 pb bb nb lb ∧ Grows w w2 ∧ ufind sg (killU qs qn la) = ufind sg lb ∧ na + 1 ≤ i + 1 ∧ nb ≤ i + 1 from
            ⟨HB2.out.1, HB2.out.2.1, HB2.out.2.2.2, (killU_other HA.out.ok.rise HE.out).trans HQ.out, by have := HNN.out; omega, by have := HNN.out; omega⟩)
          obtain ⟨hh, hhe⟩ : ∃ z, hasU sg (killU qs qn la) = z := ⟨_, rfl⟩
          obtain ⟨⟨u0, u1, u2⟩, hue⟩ : ∃ z, useOf sg (killU qs qn la) = z := ⟨_, rfl⟩
          have HOA := Lib.hid (show ∀ W, BkAt W pa ba (na + 1) (killU qs qn la) → Calls Try.prog 18 #[.pointer (some ⟨pa, 0, none⟩), .int .i64 sg] W fun e w' => e = .returned (.tuple #[.agg #[.int .i64 u0, .int .i64 u1, .int .i64 u2], .bool hh]) ∧ Grows W w' from fun W hW => by
            have h0 := of_use hW (k := sg) (by have := HSG.out; omega) (by have := HSG.out; omega)
            rw [hhe, hue] at h0
            exact h0)
          have HOB := Lib.hid (show ∀ W, BkAt W pb bb nb (lb) → Calls Try.prog 18 #[.pointer (some ⟨pb, 0, none⟩), .int .i64 sg] W fun e w' => e = .returned (.tuple #[.agg #[.int .i64 u0, .int .i64 u1, .int .i64 u2], .bool hh]) ∧ Grows W w' from fun W hW => by
            have h0 := of_use hW (k := sg) (by have := HSG.out; omega) (by have := HSG.out; omega)
            rw [← (useOf_eq H3.out.2.2.2.1).1, ← (useOf_eq H3.out.2.2.2.1).2, hhe, hue] at h0
            exact h0)
          clear hhe hue
          go_wp2_with (fail)
          refine (HOA.out w2 H3.out.1).mono ?_
          rintro e w4 ⟨rfl, hg4⟩
          obtain ⟨W4, hW4⟩ : ∃ W, w4.alloc (.cells #[.int .i64 u0, .int .i64 u1, .int .i64 u2] 34) = W := ⟨_, rfl⟩
          have H4 := Lib.hid (show Grows w2 W4 ∧ Whole W4 w4.heap.size 34 #[.int .i64 u0, .int .i64 u1, .int .i64 u2] from ⟨Grows.trans hg4 (hW4 ▸ grows_alloc _ _), by rw [← hW4]; exact Whole.made _ _ _⟩)
          clear hg4
          go_wp2_with (first | rw [hW4] | fail)
          clear hW4
          refine (HOB.out W4 (H3.out.2.1.grow H4.out.1)).mono ?_
          rintro e w5 ⟨rfl, hg5⟩
          obtain ⟨W5, hW5⟩ : ∃ W, w5.alloc (.cells #[.int .i64 u0, .int .i64 u1, .int .i64 u2] 34) = W := ⟨_, rfl⟩
          have H5 := Lib.hid (show Grows W4 W5 ∧ Whole W5 w5.heap.size 34 #[.int .i64 u0, .int .i64 u1, .int .i64 u2] from ⟨Grows.trans hg5 (hW5 ▸ grows_alloc _ _), by rw [← hW5]; exact Whole.made _ _ _⟩)
          clear hg5
          have q4 := H5.out.1.whole H4.out.2
          have e0 := q4.cell 0
          have e1 := q4.cell 1
          have e2 := q4.cell 2
          have f0 := H5.out.2.cell 0
          have f1 := H5.out.2.cell 1
          have f2 := H5.out.2.cell 2
          simp only [List.getElem?_toArray, List.getElem?_cons_zero, List.getElem?_cons_succ] at e0 e1 e2 f0 f1 f2
          have heq := fun w => show (Op.equalIn 10000 34 (.agg #[.int .i64 u0, .int .i64 u1, .int .i64 u2]) (.agg #[.int .i64 u0, .int .i64 u1, .int .i64 u2])).run Try.prog w = .ok true w from by rw [eq_use3]; simp
          have hhh : (hh != hh) = false := by cases hh <;> rfl
          clear q4
          go_wp2_with (first | rw [hW5] | fail)
          clear hW5 e0 e1 e2 f0 f1 f2 heq
          have hgz := Grows.trans H4.out.1 H5.out.1
          go_roundw
          case rel => exact ⟨i + 1, _, _, _, _, by omega, by go_num, Lib.hid (H3.out.1.grow hgz), Lib.hid (H3.out.2.1.grow hgz), Lib.hid ⟨H3.out.2.2.2.2.1, H3.out.2.2.2.2.2⟩, Lib.hid H3.out.2.2.2.1, Lib.hid (Grows.trans H3.out.2.2.1 hgz)⟩
          case measure => simp [intOf]; omega
        by_cases hw5 : qw = 5
        · subst hw5
          obtain ⟨r, hr⟩ : ∃ r, hasU qs la = r := ⟨_, rfl⟩
          have HR := Lib.hid hr
          clear hr
          have HCL := Lib.hid (show Calls Try.prog 14 #[.pointer (some ⟨pa, 0, none⟩), .int .i64 qs] W1 (BkTo0 W1 pa ba na (dropU qs la) r) from by
            have h0 := drop_use (HA.out.grow HW.out.1) (k := qs) HOS.out.2.seg.1 HOS.out.2.seg.2
            rw [show hasU qs la = r from HR.out] at h0
            exact h0)
          go_wp2_with (first | rw [hW1] | fail)
          refine HCL.out.mono ?_
          rintro e w2 ⟨rfl, hb, hs⟩
          have HB2 := Lib.hid (show BkAt w2 pa ba (na + 1) (dropU qs la) ∧ BkAt w2 pb bb nb lb ∧ Whole w2 wr.heap.size 29 #[.int .i64 5, .int .i64 qs, .int .i64 qn, .bool ql] ∧ Grows w w2 from
            ⟨hb, (HBB.out.grow HW.out.1).off hs HAP.out.2.1 HAP.out.2.2.1, (hs.same _ HW.out.2.lt (by have := HA.out.ltb; omega)).trans HW.out.2, grow_book (Grows.trans HG.out HW.out.1) hs HAP.out.1⟩)
          clear hb hs d0 d1 d2 d3 hW1 c0 c1 c2 c3
          have qq := HB2.out.2.2.1
          have d0 := qq.cell 0
          have d1 := qq.cell 1
          have d2 := qq.cell 2
          have d3 := qq.cell 3
          simp only [List.getElem?_toArray, List.getElem?_cons_zero, List.getElem?_cons_succ] at d0 d1 d2 d3
          clear qq
          have H3 := Lib.hid (show BkAt w2 pa ba (na + 1) (dropU qs la) ∧ BkAt w2 pb bb nb lb ∧ Grows w w2 ∧ ufind sg (dropU qs la) = ufind sg lb ∧ na + 1 ≤ i + 1 ∧ nb ≤ i + 1 from
            ⟨HB2.out.1, HB2.out.2.1, HB2.out.2.2.2, (dropU_other HA.out.ok.rise HE.out).trans HQ.out, by have := HNN.out; omega, by have := HNN.out; omega⟩)
          obtain ⟨hh, hhe⟩ : ∃ z, hasU sg (dropU qs la) = z := ⟨_, rfl⟩
          obtain ⟨⟨u0, u1, u2⟩, hue⟩ : ∃ z, useOf sg (dropU qs la) = z := ⟨_, rfl⟩
          have HOA := Lib.hid (show ∀ W, BkAt W pa ba (na + 1) (dropU qs la) → Calls Try.prog 18 #[.pointer (some ⟨pa, 0, none⟩), .int .i64 sg] W fun e w' => e = .returned (.tuple #[.agg #[.int .i64 u0, .int .i64 u1, .int .i64 u2], .bool hh]) ∧ Grows W w' from fun W hW => by
            have h0 := of_use hW (k := sg) (by have := HSG.out; omega) (by have := HSG.out; omega)
            rw [hhe, hue] at h0
            exact h0)
          have HOB := Lib.hid (show ∀ W, BkAt W pb bb nb (lb) → Calls Try.prog 18 #[.pointer (some ⟨pb, 0, none⟩), .int .i64 sg] W fun e w' => e = .returned (.tuple #[.agg #[.int .i64 u0, .int .i64 u1, .int .i64 u2], .bool hh]) ∧ Grows W w' from fun W hW => by
            have h0 := of_use hW (k := sg) (by have := HSG.out; omega) (by have := HSG.out; omega)
            rw [← (useOf_eq H3.out.2.2.2.1).1, ← (useOf_eq H3.out.2.2.2.1).2, hhe, hue] at h0
            exact h0)
          clear hhe hue
          go_wp2_with (fail)
          refine (HOA.out w2 H3.out.1).mono ?_
          rintro e w4 ⟨rfl, hg4⟩
          obtain ⟨W4, hW4⟩ : ∃ W, w4.alloc (.cells #[.int .i64 u0, .int .i64 u1, .int .i64 u2] 34) = W := ⟨_, rfl⟩
          have H4 := Lib.hid (show Grows w2 W4 ∧ Whole W4 w4.heap.size 34 #[.int .i64 u0, .int .i64 u1, .int .i64 u2] from ⟨Grows.trans hg4 (hW4 ▸ grows_alloc _ _), by rw [← hW4]; exact Whole.made _ _ _⟩)
          clear hg4
          go_wp2_with (first | rw [hW4] | fail)
          clear hW4
          refine (HOB.out W4 (H3.out.2.1.grow H4.out.1)).mono ?_
          rintro e w5 ⟨rfl, hg5⟩
          obtain ⟨W5, hW5⟩ : ∃ W, w5.alloc (.cells #[.int .i64 u0, .int .i64 u1, .int .i64 u2] 34) = W := ⟨_, rfl⟩
          have H5 := Lib.hid (show Grows W4 W5 ∧ Whole W5 w5.heap.size 34 #[.int .i64 u0, .int .i64 u1, .int .i64 u2] from ⟨Grows.trans hg5 (hW5 ▸ grows_alloc _ _), by rw [← hW5]; exact Whole.made _ _ _⟩)
          clear hg5
          have q4 := H5.out.1.whole H4.out.2
          have e0 := q4.cell 0
          have e1 := q4.cell 1
          have e2 := q4.cell 2
          have f0 := H5.out.2.cell 0
          have f1 := H5.out.2.cell 1
          have f2 := H5.out.2.cell 2
          simp only [List.getElem?_toArray, List.getElem?_cons_zero, List.getElem?_cons_succ] at e0 e1 e2 f0 f1 f2
          have heq := fun w => show (Op.equalIn 10000 34 (.agg #[.int .i64 u0, .int .i64 u1, .int .i64 u2]) (.agg #[.int .i64 u0, .int .i64 u1, .int .i64 u2])).run Try.prog w = .ok true w from by rw [eq_use3]; simp
          have hhh : (hh != hh) = false := by cases hh <;> rfl
          clear q4
          go_wp2_with (first | rw [hW5] | fail)
          clear hW5 e0 e1 e2 f0 f1 f2 heq
          have hgz := Grows.trans H4.out.1 H5.out.1
          go_roundw
          case rel => exact ⟨i + 1, _, _, _, _, by omega, by go_num, Lib.hid (H3.out.1.grow hgz), Lib.hid (H3.out.2.1.grow hgz), Lib.hid ⟨H3.out.2.2.2.2.1, H3.out.2.2.2.2.2⟩, Lib.hid H3.out.2.2.2.1, Lib.hid (Grows.trans H3.out.2.2.1 hgz)⟩
          case measure => simp [intOf]; omega
        have g3 : (qw == 3) = false := by rw [beq_eq_false_iff_ne]; exact hw3
        have g4 : (qw == 4) = false := by rw [beq_eq_false_iff_ne]; exact hw4
        have g5 : (qw == 5) = false := by rw [beq_eq_false_iff_ne]; exact hw5
        clear hw3 hw4 hw5
        obtain ⟨r, hr⟩ : ∃ r, putB qs qn la = r := ⟨_, rfl⟩
        have HR := Lib.hid hr
        clear hr
        have HCL := Lib.hid (show Calls Try.prog 16 #[.pointer (some ⟨pa, 0, none⟩), .int .i64 qs, .int .i64 qn, .bool ql] W1 (BkTo W1 pa ba na (putU qs qn ql la) r) from by
          have h0 := put_use (HA.out.grow HW.out.1) (by have := HNN.out; omega) (k := qs) HOS.out.2.seg.1 HOS.out.2.seg.2 qn ql
          rw [show putB qs qn la = r from HR.out] at h0
          exact h0)
        go_wp2_with (first | rw [hW1] | fail)
        refine HCL.out.mono ?_
        rintro e w2 ⟨⟨rfl, hb, hs⟩, _⟩
        have HB2 := Lib.hid (show BkAt w2 pa ba (na + 1) (putU qs qn ql la) ∧ BkAt w2 pb bb nb lb ∧ Whole w2 wr.heap.size 29 #[.int .i64 qw, .int .i64 qs, .int .i64 qn, .bool ql] ∧ Grows w w2 from
          ⟨hb, (HBB.out.grow HW.out.1).off hs HAP.out.2.1 HAP.out.2.2.1, (hs.same _ HW.out.2.lt (by have := HA.out.ltb; omega)).trans HW.out.2, grow_book (Grows.trans HG.out HW.out.1) hs HAP.out.1⟩)
        clear hb hs d0 d1 d2 d3 hW1 c0 c1 c2 c3
        have qq := HB2.out.2.2.1
        have d0 := qq.cell 0
        have d1 := qq.cell 1
        have d2 := qq.cell 2
        have d3 := qq.cell 3
        simp only [List.getElem?_toArray, List.getElem?_cons_zero, List.getElem?_cons_succ] at d0 d1 d2 d3
        clear qq
        have H3 := Lib.hid (show BkAt w2 pa ba (na + 1) (putU qs qn ql la) ∧ BkAt w2 pb bb nb lb ∧ Grows w w2 ∧ ufind sg (putU qs qn ql la) = ufind sg lb ∧ na + 1 ≤ i + 1 ∧ nb ≤ i + 1 from
          ⟨HB2.out.1, HB2.out.2.1, HB2.out.2.2.2, (putU_other HA.out.ok.rise HE.out).trans HQ.out, by have := HNN.out; omega, by have := HNN.out; omega⟩)
        obtain ⟨hh, hhe⟩ : ∃ z, hasU sg (putU qs qn ql la) = z := ⟨_, rfl⟩
        obtain ⟨⟨u0, u1, u2⟩, hue⟩ : ∃ z, useOf sg (putU qs qn ql la) = z := ⟨_, rfl⟩
        have HOA := Lib.hid (show ∀ W, BkAt W pa ba (na + 1) (putU qs qn ql la) → Calls Try.prog 18 #[.pointer (some ⟨pa, 0, none⟩), .int .i64 sg] W fun e w' => e = .returned (.tuple #[.agg #[.int .i64 u0, .int .i64 u1, .int .i64 u2], .bool hh]) ∧ Grows W w' from fun W hW => by
          have h0 := of_use hW (k := sg) (by have := HSG.out; omega) (by have := HSG.out; omega)
          rw [hhe, hue] at h0
          exact h0)
        have HOB := Lib.hid (show ∀ W, BkAt W pb bb nb (lb) → Calls Try.prog 18 #[.pointer (some ⟨pb, 0, none⟩), .int .i64 sg] W fun e w' => e = .returned (.tuple #[.agg #[.int .i64 u0, .int .i64 u1, .int .i64 u2], .bool hh]) ∧ Grows W w' from fun W hW => by
          have h0 := of_use hW (k := sg) (by have := HSG.out; omega) (by have := HSG.out; omega)
          rw [← (useOf_eq H3.out.2.2.2.1).1, ← (useOf_eq H3.out.2.2.2.1).2, hhe, hue] at h0
          exact h0)
        clear hhe hue
        go_wp2_with (fail)
        refine (HOA.out w2 H3.out.1).mono ?_
        rintro e w4 ⟨rfl, hg4⟩
        obtain ⟨W4, hW4⟩ : ∃ W, w4.alloc (.cells #[.int .i64 u0, .int .i64 u1, .int .i64 u2] 34) = W := ⟨_, rfl⟩
        have H4 := Lib.hid (show Grows w2 W4 ∧ Whole W4 w4.heap.size 34 #[.int .i64 u0, .int .i64 u1, .int .i64 u2] from ⟨Grows.trans hg4 (hW4 ▸ grows_alloc _ _), by rw [← hW4]; exact Whole.made _ _ _⟩)
        clear hg4
        go_wp2_with (first | rw [hW4] | fail)
        clear hW4
        refine (HOB.out W4 (H3.out.2.1.grow H4.out.1)).mono ?_
        rintro e w5 ⟨rfl, hg5⟩
        obtain ⟨W5, hW5⟩ : ∃ W, w5.alloc (.cells #[.int .i64 u0, .int .i64 u1, .int .i64 u2] 34) = W := ⟨_, rfl⟩
        have H5 := Lib.hid (show Grows W4 W5 ∧ Whole W5 w5.heap.size 34 #[.int .i64 u0, .int .i64 u1, .int .i64 u2] from ⟨Grows.trans hg5 (hW5 ▸ grows_alloc _ _), by rw [← hW5]; exact Whole.made _ _ _⟩)
        clear hg5
        have q4 := H5.out.1.whole H4.out.2
        have e0 := q4.cell 0
        have e1 := q4.cell 1
        have e2 := q4.cell 2
        have f0 := H5.out.2.cell 0
        have f1 := H5.out.2.cell 1
        have f2 := H5.out.2.cell 2
        simp only [List.getElem?_toArray, List.getElem?_cons_zero, List.getElem?_cons_succ] at e0 e1 e2 f0 f1 f2
        have heq := fun w => show (Op.equalIn 10000 34 (.agg #[.int .i64 u0, .int .i64 u1, .int .i64 u2]) (.agg #[.int .i64 u0, .int .i64 u1, .int .i64 u2])).run Try.prog w = .ok true w from by rw [eq_use3]; simp
        have hhh : (hh != hh) = false := by cases hh <;> rfl
        clear q4
        go_wp2_with (first | rw [hW5] | fail)
        clear hW5 e0 e1 e2 f0 f1 f2 heq
        have hgz := Grows.trans H4.out.1 H5.out.1
        go_roundw
        case rel => exact ⟨i + 1, _, _, _, _, by omega, by go_num, Lib.hid (H3.out.1.grow hgz), Lib.hid (H3.out.2.1.grow hgz), Lib.hid ⟨H3.out.2.2.2.2.1, H3.out.2.2.2.2.2⟩, Lib.hid H3.out.2.2.2.1, Lib.hid (Grows.trans H3.out.2.2.1 hgz)⟩
        case measure => simp [intOf]; omega
    · obtain rfl : i = n := by omega
      go_wp2_with (fail)
      go_ret
      exact ⟨rfl, HG.out⟩


set_option maxRecDepth 100000 in
theorem bookApart_lifted (os : Os) (started : os.Started) (H : Type) (enc : TypeId × Value → H) :
    ReturnsInHanded {} Try.checked os 6 .any (Rows.bookApartSpec.pre6 enc Try.prog Try.f6 Rows.bookApartRow.domain false) (Rows.bookApartSpec.post enc Try.prog Try.f6 false true false false) := by
  refine lift_law (C := Try.checked) H enc own started (by kernel_rfl) Try.func6
    (ChangeSpec.witness6 (enc := enc) (C := Try.checked) false ⟨#[], #[.slice none 0 0, .int .u8 0], []⟩ 16 (by kernel_rfl) (by kernel_rfl) (by kernel_rfl) (by kernel_rfl))
    laidOut (of_readable (by kernel_rfl)) rfl Try.underlying4 rfl (fun ds hd => ?_) (fun W base args ds p hval hA hsz => ?_)
  · match ds, hd with
    | [d1, d2], _ => rfl
  · rw [Try.params6] at hA hval hsz
    obtain ⟨v0, vs0, d0, ds0, p0, q0, hargs, rfl, rfl, h0, r0⟩ := trodAll_cons hA
    obtain ⟨v1, vs1, d1, ds1, p1, q1, rfl, rfl, rfl, h1, r1⟩ := trodAll_cons r0
    obtain ⟨rfl, rfl, rfl⟩ := trodAll_nil r1
    obtain rfl : args = #[v0, v1] := by cases args; simp_all
    obtain ⟨A0, n0, c0, xs0, rfl, hx0⟩ := open_ops12 (hval 0 22 v0 rfl rfl) h0
    obtain ⟨a1, rfl, _, _, w1⟩ := open_int Try.underlying5 (hval 1 5 v1 rfl rfl) h1
    have b1 := bounds_u8 w1
    exact bookApart_law W A0 n0 c0 xs0 hx0 a1 (by omega)

theorem bookApart_over : Rows.bookApartRow.holds Try.pinned (OpenSpec.ofChange Rows.bookApartSpec) :=
  OpenClaim.holds_of_wide 6 Try.f6 rfl rfl rfl rfl rfl rfl rfl ⟨rfl, rfl, rfl, rfl, rfl⟩ rfl rfl rfl rfl rfl (by kernel_rfl) Try.func6 (by kernel_rfl)
    (of_decide_eq_true (by kernel_rfl)) (by unfold Func.isWrapper; first | (rw [if_pos (by decide +kernel)]; kernel_rfl) | (rw [if_neg (by decide +kernel)]; exact ⟨rfl, rfl⟩))
    (fun os started H enc _ => bookApart_lifted os started H enc)
theorem bookApart_holds : Rows.BookApartSaid := bookApart_over
end Go.Proofs.Ytlldcogkcjnejaa
