/-
  souterrainlaw12.BookPlays: calls of a book answer as the document says, whatever they are (any list of at most 200); so do what segments have, sums, and which is worst.
-/
import Derived.Test.YtlldcogkcjnejaaBkOps
import Derived.Test.YtlldcogkcjnejaaBkMore
import Derived.Test.YtlldcogkcjnejaaRbPutAll
import Derived.Deep.CutBlock
import Derived.ProofKit
import Derived.ChangeOld
namespace Go.Proofs.Ytlldcogkcjnejaa
open Go.Maps Go.Shelf Go.Sort Go.ChangeShapes Go.WideShapes Go.ChangeAt Go.RowKit
set_option linter.unusedSimpArgs false
set_option linter.unusedVariables false
attribute [local irreducible] wpF
attribute [local irreducible] Go.wpQuiet

theorem flat_seg : ∀ ws : List Us, ws.flatMap segV = (ws.map (·.seg)).map intB
  | [] => rfl
  | x :: xs => by
    rw [List.flatMap_cons, flat_seg xs]
    rfl
theorem row_seg {w : World} {A : Option Addr} {c : Nat} {ws : List Us} (h : Rs w A ws.length c segV 1 ws) : Row w w.heap.size A ws.length ((ws.map (·.seg)).map intB) := by
  have h1 := h.row
  rw [flat_seg] at h1
  simpa using h1
set_option maxRecDepth 100000 in
set_option maxHeartbeats 8000000 in
theorem bookPlays_law (w : World) (A : Option Addr) (n c : Nat) (os : List O12) (hx : Ops12 w A n c os) :
    Calls Try.prog 3 #[.slice A n c] w fun e w' => e = .returned (.bool true) ∧ Below w.heap.size w w' := by
  have HX := Lib.hid hx
  clear hx
  go_enter Try.func3, Try.ntmps3
  go_wp2_with (fail)
  refine (head12_any w).mono ?_
  rintro e w0 ⟨rfl, hg0⟩
  have HG0 := Lib.hid hg0
  clear hg0
  go_wp2_with (fail)
  refine (new_any w0).mono ?_
  rintro e w1 ⟨pb, bb, rfl, hb1, hg1, hp1, hq1⟩
  have H1 := Lib.hid (show BkAt w1 pb bb 0 [] ∧ Grows w w1 ∧ w.heap.size ≤ bb from ⟨hb1, Grows.trans HG0.out hg1, by have := HG0.out.size; omega⟩)
  clear hb1 hg1 hp1 hq1
  go_wp2_with (fail)
  refine (rnew_any w1).mono ?_
  rintro e w2 ⟨q, rfl, hr2, hg2, hq2⟩
  have H2 := Lib.hid (show BkAt w2 pb bb 0 [] ∧ RbAt w2 q none 0 [] ∧ Grows w w2 from ⟨H1.out.1.grow hg2, hr2, Grows.trans H1.out.2.1 hg2⟩)
  have HAP := Lib.hid (show w.heap.size ≤ bb ∧ w.heap.size ≤ q ∧ pb ≠ q ∧ bb ≠ q from by
    have h1 := H1.out.1.ltp
    have h2 := H1.out.1.ltb
    have h3 := H1.out.2.1.size
    exact ⟨H1.out.2.2, by omega, by omega, by omega⟩)
  clear hr2 hg2 hq2
  by_cases hn : 200 < n
  · go_wp2_with (fail)
    go_ret
    exact ⟨rfl, H2.out.2.2⟩
  go_wp2_with (fail)
  go_loopw [6, 7, 8, 9, 10, 11, 12, 13, 14, 15, 16, 17] (fun vi _ _ _ _ _ _ _ _ _ _ _ wr => ∃ (i nb : Nat) (l : List Us) (A : Option Addr) (c1 : Nat), i ≤ n ∧ vi = .int .i64 (i : Int) ∧ Hid (BkAt wr pb bb nb l) ∧ Hid (RbAt wr q A c1 l) ∧ Hid (nb ≤ i) ∧ Hid (∀ ad, A = some ad → ad.block ≠ pb ∧ ad.block ≠ bb) ∧ Hid (Grows w wr)) (fun vi _ _ _ _ _ _ _ _ _ _ _ _ => n - (intOf vi).toNat)
  case atStart => exact ⟨0, 0, [], none, 0, Nat.zero_le _, rfl, Lib.hid H2.out.1, Lib.hid H2.out.2.1, Lib.hid (Nat.le_refl _), Lib.hid (fun _ h => by cases h), Lib.hid H2.out.2.2⟩
  case round =>
    obtain ⟨i, nb, l, A, c1, hi, rfl, HBB, HRB, HNB, HSP, HG⟩ := hrel
    by_cases hlt : i < n
    · have HNN := Lib.hid (show nb ≤ i ∧ i < 200 ∧ i < n from by have := HNB.out; omega)
      have HOK := Lib.hid (show UOk (nb * 1099511627776) 999999 l from HBB.out.ok.mono (Nat.le_refl _) (by have := HNN.out; omega))
      clear hn
      obtain ⟨ad, ⟨qw, qs, qn, ql⟩, hA, hos, hbl, hok, hcs⟩ := Ops12.at (HX.out.grow HG.out) hlt
      subst hA
      obtain ⟨c0, c1', c2, c3⟩ := hcs wr (Grows.refl _)
      dsimp only at c0 c1' c2 c3
      have k0 : (0 : Int) ≤ (i : Int) := by omega
      have k1 : (i : Int) < (n : Int) := by omega
      obtain ⟨W1, hW1⟩ : ∃ W, wr.alloc (.cells #[.int .i64 qw, .int .i64 qs, .int .i64 qn, .bool ql] 29) = W := ⟨_, rfl⟩
      have hgW : Grows wr W1 := hW1 ▸ grows_alloc _ _
      have hmW : Whole W1 wr.heap.size 29 #[.int .i64 qw, .int .i64 qs, .int .i64 qn, .bool ql] := by rw [← hW1]; exact Whole.made _ _ _
      have HW := Lib.hid (And.intro hgW hmW)
      have HOS := Lib.hid (And.intro hos hok)
      have qq := HW.out.2
      have d0 := qq.cell 0
      have d1 := qq.cell 1
      have d2 := qq.cell 2
      have d3 := qq.cell 3
      simp only [List.getElem?_toArray, List.getElem?_cons_zero, List.getElem?_cons_succ] at d0 d1 d2 d3
      clear qq
      clear hos hok hbl hcs hgW hmW
      go_upto_block 2 with (first | rw [hW1] | fail)
      clear hW1 c0 c1' c2 c3
      go_cut [8, 9] from 33 to 148 (fun va vl wx => ∃ (r : Bool) (l2 : List Us) (A2 : Option Addr) (c2 : Nat), va = .bool r ∧ vl = .bool r ∧ Hid (BkAt wx pb bb (nb + 1) l2 ∧ RbAt wx q A2 c2 l2 ∧ (∀ ad, A2 = some ad → ad.block ≠ pb ∧ ad.block ≠ bb) ∧ Whole wx wr.heap.size 29 #[.int .i64 qw, .int .i64 qs, .int .i64 qn, .bool ql] ∧ Grows w wx))
      case first =>
        by_cases hw3 : qw = 3
        · subst hw3
          obtain ⟨r, hr⟩ : ∃ z, killB qs qn l = z := ⟨_, rfl⟩
          obtain ⟨l2, hl2⟩ : ∃ z, killU qs qn l = z := ⟨_, rfl⟩
          have HCB := Lib.hid (show ∀ W, BkAt W pb bb nb l → Calls Try.prog 12 #[.pointer (some ⟨pb, 0, none⟩), .int .i64 qs, .int .i64 qn] W (BkTo W pb bb nb l2 r) from fun W hW => by
            have h0 := kill_use hW (by have := HNN.out; omega) (k := qs) HOS.out.2.seg.1 HOS.out.2.seg.2 qn
            rw [hr, hl2] at h0
            exact h0)
          have HCR := Lib.hid (show ∀ W, RbAt W q A c1 l → Calls Try.prog 13 #[.pointer (some ⟨q, 0, none⟩), .int .i64 qs, .int .i64 qn] W fun e w' => e = .returned (.bool r) ∧ RbTo W q A l2 w' from fun W hW => by
            have h0 := rkill_use hW (HOK.out.mono (Nat.le_refl _) (by omega)) qs qn
            rw [hr, hl2] at h0
            exact h0)
          clear hr hl2
          go_wp2_with (fail)
          refine (HCB.out W1 (HBB.out.grow HW.out.1)).mono ?_
          rintro e w2 ⟨⟨rfl, hb, hs⟩, _⟩
          have HB2 := Lib.hid (show BkAt w2 pb bb (nb + 1) l2 ∧ RbAt w2 q A c1 l ∧ Whole w2 wr.heap.size 29 #[.int .i64 3, .int .i64 qs, .int .i64 qn, .bool ql] ∧ Grows w w2 from
            ⟨hb, (HRB.out.grow HW.out.1).off hs (fun e => HAP.out.2.2.2 e.symm) (fun ad e => (HSP.out ad e).2), (hs.same _ HW.out.2.lt (by have := HBB.out.ltb; omega)).trans HW.out.2, grow_book (Grows.trans HG.out HW.out.1) hs HAP.out.1⟩)
          clear hb hs d0 d1 d2 d3
          have qq := HB2.out.2.2.1
          have d0 := qq.cell 0
          have d1 := qq.cell 1
          have d2 := qq.cell 2
          have d3 := qq.cell 3
          simp only [List.getElem?_toArray, List.getElem?_cons_zero, List.getElem?_cons_succ] at d0 d1 d2 d3
          clear qq
          go_wp2_with (fail)
          refine (HCR.out w2 HB2.out.2.1).mono ?_
          rintro e w3 ⟨rfl, A2, c2, hr2, hs2, ha2⟩
          have HB3 := Lib.hid (show BkAt w3 pb bb (nb + 1) l2 ∧ RbAt w3 q A2 c2 l2 ∧ (∀ ad, A2 = some ad → ad.block ≠ pb ∧ ad.block ≠ bb) ∧ Whole w3 wr.heap.size 29 #[.int .i64 3, .int .i64 qs, .int .i64 qn, .bool ql] ∧ Grows w w3 from by
            refine ⟨HB2.out.1.off hs2 HAP.out.2.2.1 HAP.out.2.2.2, hr2, fun ad e => ?_, (hs2.same _ HB2.out.2.2.1.lt (by have := HRB.out.box.lt; omega)).trans HB2.out.2.2.1, grow_book HB2.out.2.2.2 hs2 HAP.out.2.1⟩
            rcases ha2 with h | h
            · exact HSP.out ad (h ▸ e)
            · have h1 := h ad e
              have h2 := HB2.out.1.ltp
              have h3 := HB2.out.1.ltb
              omega)
          clear hr2 hs2 ha2 d0 d1 d2 d3
          go_wp2_with (fail)
          go_meet
          exact ⟨r, l2, A2, c2, rfl, rfl, HB3⟩
        by_cases hw4 : qw = 4
        · subst hw4
          obtain ⟨r, hr⟩ : ∃ z, killB qs qn l = z := ⟨_, rfl⟩
          obtain ⟨l2, hl2⟩ : ∃ z, killU qs qn l = z := ⟨_, rfl⟩
          have HCB := Lib.hid (show ∀ W, BkAt W pb bb nb l → Calls Try.prog 12 #[.pointer (some ⟨pb, 0, none⟩), .int .i64 qs, .int .i64 qn] W (BkTo W pb bb nb l2 r) from fun W hW => by
            have h0 := kill_use hW (by have := HNN.out; omega) (k := qs) HOS.out.2.seg.1 HOS.out.2.seg.2 qn
            rw [hr, hl2] at h0
            exact h0)
          have HCR := Lib.hid (show ∀ W, RbAt W q A c1 l → Calls Try.prog 13 #[.pointer (some ⟨q, 0, none⟩), .int .i64 qs, .int .i64 qn] W fun e w' => e = .returned (.bool r) ∧ RbTo W q A l2 w' from fun W hW => by
            have h0 := rkill_use hW (HOK.out.mono (Nat.le_refl _) (by omega)) qs qn
            rw [hr, hl2] at h0
            exact h0)
          clear hr hl2
          go_wp2_with (fail)
          refine (HCB.out W1 (HBB.out.grow HW.out.1)).mono ?_
          rintro e w2 ⟨⟨rfl, hb, hs⟩, _⟩
          have HB2 := Lib.hid (show BkAt w2 pb bb (nb + 1) l2 ∧ RbAt w2 q A c1 l ∧ Whole w2 wr.heap.size 29 #[.int .i64 4, .int .i64 qs, .int .i64 qn, .bool ql] ∧ Grows w w2 from
            ⟨hb, (HRB.out.grow HW.out.1).off hs (fun e => HAP.out.2.2.2 e.symm) (fun ad e => (HSP.out ad e).2), (hs.same _ HW.out.2.lt (by have := HBB.out.ltb; omega)).trans HW.out.2, grow_book (Grows.trans HG.out HW.out.1) hs HAP.out.1⟩)
          clear hb hs d0 d1 d2 d3
          have qq := HB2.out.2.2.1
          have d0 := qq.cell 0
          have d1 := qq.cell 1
          have d2 := qq.cell 2
          have d3 := qq.cell 3
          simp only [List.getElem?_toArray, List.getElem?_cons_zero, List.getElem?_cons_succ] at d0 d1 d2 d3
          clear qq
          go_wp2_with (fail)
          refine (HCR.out w2 HB2.out.2.1).mono ?_
          rintro e w3 ⟨rfl, A2, c2, hr2, hs2, ha2⟩
          have HB3 := Lib.hid (show BkAt w3 pb bb (nb + 1) l2 ∧ RbAt w3 q A2 c2 l2 ∧ (∀ ad, A2 = some ad → ad.block ≠ pb ∧ ad.block ≠ bb) ∧ Whole w3 wr.heap.size 29 #[.int .i64 4, .int .i64 qs, .int .i64 qn, .bool ql] ∧ Grows w w3 from by
            refine ⟨HB2.out.1.off hs2 HAP.out.2.2.1 HAP.out.2.2.2, hr2, fun ad e => ?_, (hs2.same _ HB2.out.2.2.1.lt (by have := HRB.out.box.lt; omega)).trans HB2.out.2.2.1, grow_book HB2.out.2.2.2 hs2 HAP.out.2.1⟩
            rcases ha2 with h | h
            · exact HSP.out ad (h ▸ e)
            · have h1 := h ad e
              have h2 := HB2.out.1.ltp
              have h3 := HB2.out.1.ltb
              omega)
          clear hr2 hs2 ha2 d0 d1 d2 d3
          go_wp2_with (fail)
          go_meet
          exact ⟨r, l2, A2, c2, rfl, rfl, HB3⟩
        by_cases hw5 : qw = 5
        · subst hw5
          obtain ⟨r, hr⟩ : ∃ z, hasU qs l = z := ⟨_, rfl⟩
          obtain ⟨l2, hl2⟩ : ∃ z, dropU qs l = z := ⟨_, rfl⟩
          have HCB := Lib.hid (show ∀ W, BkAt W pb bb nb l → Calls Try.prog 14 #[.pointer (some ⟨pb, 0, none⟩), .int .i64 qs] W (BkTo0 W pb bb nb l2 r) from fun W hW => by
            have h0 := drop_use hW (k := qs) HOS.out.2.seg.1 HOS.out.2.seg.2
            rw [hr, hl2] at h0
            exact h0)
          have HCR := Lib.hid (show ∀ W, RbAt W q A c1 l → Calls Try.prog 15 #[.pointer (some ⟨q, 0, none⟩), .int .i64 qs] W fun e w' => e = .returned (.bool r) ∧ RbTo W q A l2 w' from fun W hW => by
            have h0 := rdrop_use hW (HOK.out.mono (Nat.le_refl _) (by omega)) qs
            rw [hr, hl2] at h0
            exact h0)
          clear hr hl2
          go_wp2_with (fail)
          refine (HCB.out W1 (HBB.out.grow HW.out.1)).mono ?_
          rintro e w2 ⟨rfl, hb, hs⟩
          have HB2 := Lib.hid (show BkAt w2 pb bb (nb + 1) l2 ∧ RbAt w2 q A c1 l ∧ Whole w2 wr.heap.size 29 #[.int .i64 5, .int .i64 qs, .int .i64 qn, .bool ql] ∧ Grows w w2 from
            ⟨hb, (HRB.out.grow HW.out.1).off hs (fun e => HAP.out.2.2.2 e.symm) (fun ad e => (HSP.out ad e).2), (hs.same _ HW.out.2.lt (by have := HBB.out.ltb; omega)).trans HW.out.2, grow_book (Grows.trans HG.out HW.out.1) hs HAP.out.1⟩)
          clear hb hs d0 d1 d2 d3
          have qq := HB2.out.2.2.1
          have d0 := qq.cell 0
          have d1 := qq.cell 1
          have d2 := qq.cell 2
          have d3 := qq.cell 3
          simp only [List.getElem?_toArray, List.getElem?_cons_zero, List.getElem?_cons_succ] at d0 d1 d2 d3
          clear qq
          go_wp2_with (fail)
          refine (HCR.out w2 HB2.out.2.1).mono ?_
          rintro e w3 ⟨rfl, A2, c2, hr2, hs2, ha2⟩
          have HB3 := Lib.hid (show BkAt w3 pb bb (nb + 1) l2 ∧ RbAt w3 q A2 c2 l2 ∧ (∀ ad, A2 = some ad → ad.block ≠ pb ∧ ad.block ≠ bb) ∧ Whole w3 wr.heap.size 29 #[.int .i64 5, .int .i64 qs, .int .i64 qn, .bool ql] ∧ Grows w w3 from by
            refine ⟨HB2.out.1.off hs2 HAP.out.2.2.1 HAP.out.2.2.2, hr2, fun ad e => ?_, (hs2.same _ HB2.out.2.2.1.lt (by have := HRB.out.box.lt; omega)).trans HB2.out.2.2.1, grow_book HB2.out.2.2.2 hs2 HAP.out.2.1⟩
            rcases ha2 with h | h
            · exact HSP.out ad (h ▸ e)
            · have h1 := h ad e
              have h2 := HB2.out.1.ltp
              have h3 := HB2.out.1.ltb
              omega)
          clear hr2 hs2 ha2 d0 d1 d2 d3
          go_wp2_with (fail)
          go_meet
          exact ⟨r, l2, A2, c2, rfl, rfl, HB3⟩
        have g3 : (qw == 3) = false := by rw [beq_eq_false_iff_ne]; exact hw3
        have g4 : (qw == 4) = false := by rw [beq_eq_false_iff_ne]; exact hw4
        have g5 : (qw == 5) = false := by rw [beq_eq_false_iff_ne]; exact hw5
        clear hw3 hw4 hw5
        obtain ⟨r, hr⟩ : ∃ z, putB qs qn l = z := ⟨_, rfl⟩
        obtain ⟨l2, hl2⟩ : ∃ z, putU qs qn ql l = z := ⟨_, rfl⟩
        have HCB := Lib.hid (show ∀ W, BkAt W pb bb nb l → Calls Try.prog 16 #[.pointer (some ⟨pb, 0, none⟩), .int .i64 qs, .int .i64 qn, .bool ql] W (BkTo W pb bb nb l2 r) from fun W hW => by
          have h0 := put_use hW (by have := HNN.out; omega) (k := qs) HOS.out.2.seg.1 HOS.out.2.seg.2 qn ql
          rw [hr, hl2] at h0
          exact h0)
        have HCR := Lib.hid (show ∀ W, RbAt W q A c1 l → Calls Try.prog 17 #[.pointer (some ⟨q, 0, none⟩), .int .i64 qs, .int .i64 qn, .bool ql] W fun e w' => e = .returned (.bool r) ∧ RbTo W q A l2 w' from fun W hW => by
          have h0 := rput_use hW HOK.out qs qn ql
          rw [hr, hl2] at h0
          exact h0)
        clear hr hl2
        go_wp2_with (fail)
        refine (HCB.out W1 (HBB.out.grow HW.out.1)).mono ?_
        rintro e w2 ⟨⟨rfl, hb, hs⟩, _⟩
        have HB2 := Lib.hid (show BkAt w2 pb bb (nb + 1) l2 ∧ RbAt w2 q A c1 l ∧ Whole w2 wr.heap.size 29 #[.int .i64 qw, .int .i64 qs, .int .i64 qn, .bool ql] ∧ Grows w w2 from
          ⟨hb, (HRB.out.grow HW.out.1).off hs (fun e => HAP.out.2.2.2 e.symm) (fun ad e => (HSP.out ad e).2), (hs.same _ HW.out.2.lt (by have := HBB.out.ltb; omega)).trans HW.out.2, grow_book (Grows.trans HG.out HW.out.1) hs HAP.out.1⟩)
        clear hb hs d0 d1 d2 d3
        have qq := HB2.out.2.2.1
        have d0 := qq.cell 0
        have d1 := qq.cell 1
        have d2 := qq.cell 2
        have d3 := qq.cell 3
        simp only [List.getElem?_toArray, List.getElem?_cons_zero, List.getElem?_cons_succ] at d0 d1 d2 d3
        clear qq
        go_wp2_with (fail)
        refine (HCR.out w2 HB2.out.2.1).mono ?_
        rintro e w3 ⟨rfl, A2, c2, hr2, hs2, ha2⟩
        have HB3 := Lib.hid (show BkAt w3 pb bb (nb + 1) l2 ∧ RbAt w3 q A2 c2 l2 ∧ (∀ ad, A2 = some ad → ad.block ≠ pb ∧ ad.block ≠ bb) ∧ Whole w3 wr.heap.size 29 #[.int .i64 qw, .int .i64 qs, .int .i64 qn, .bool ql] ∧ Grows w w3 from by
          refine ⟨HB2.out.1.off hs2 HAP.out.2.2.1 HAP.out.2.2.2, hr2, fun ad e => ?_, (hs2.same _ HB2.out.2.2.1.lt (by have := HRB.out.box.lt; omega)).trans HB2.out.2.2.1, grow_book HB2.out.2.2.2 hs2 HAP.out.2.1⟩
          rcases ha2 with h | h
          · exact HSP.out ad (h ▸ e)
          · have h1 := h ad e
            have h2 := HB2.out.1.ltp
            have h3 := HB2.out.1.ltb
            omega)
        clear hr2 hs2 ha2 d0 d1 d2 d3
        go_wp2_with (fail)
        go_meet
        exact ⟨r, l2, A2, c2, rfl, rfl, HB3⟩
      case rest =>
        obtain ⟨r, l2, A2, c2, rfl, rfl, HB3⟩ := hcut
        have qq := HB3.out.2.2.2.1
        have d0 := qq.cell 0
        have d1 := qq.cell 1
        have d2 := qq.cell 2
        have d3 := qq.cell 3
        simp only [List.getElem?_toArray, List.getElem?_cons_zero, List.getElem?_cons_succ] at d0 d1 d2 d3
        clear qq
        obtain ⟨hh, hhe⟩ : ∃ z, hasU qs l2 = z := ⟨_, rfl⟩
        obtain ⟨⟨u0, u1, u2⟩, hue⟩ : ∃ z, useOf qs l2 = z := ⟨_, rfl⟩
        obtain ⟨sa, hsa⟩ : ∃ z, sumA l2 = z := ⟨_, rfl⟩
        obtain ⟨sl, hsl⟩ : ∃ z, sumL l2 = z := ⟨_, rfl⟩
        have HOK2 := Lib.hid (show UOk ((nb + 1) * 1099511627776) 999999 l2 from HB3.out.1.ok.mono (Nat.le_refl _) (by have := HNN.out; omega))
        have HOA := Lib.hid (show Calls Try.prog 18 #[.pointer (some ⟨pb, 0, none⟩), .int .i64 qs] wc fun e w' => e = .returned (.tuple #[.agg #[.int .i64 u0, .int .i64 u1, .int .i64 u2], .bool hh]) ∧ Grows wc w' from by
          have h0 := of_use HB3.out.1 (k := qs) HOS.out.2.seg.1 HOS.out.2.seg.2
          rw [hhe, hue] at h0
          exact h0)
        have HOB := Lib.hid (show ∀ W, RbAt W q A2 c2 l2 → Calls Try.prog 19 #[.pointer (some ⟨q, 0, none⟩), .int .i64 qs] W fun e w' => e = .returned (.tuple #[.agg #[.int .i64 u0, .int .i64 u1, .int .i64 u2], .bool hh]) ∧ Grows W w' from fun W hW => by
          have h0 := rof_use hW (by have := HOK2.out.few; omega) HOK2.out.rise qs
          rw [hhe, hue] at h0
          exact h0)
        have HSA := Lib.hid (show ∀ W, BkAt W pb bb (nb + 1) l2 → Calls Try.prog 20 #[.pointer (some ⟨pb, 0, none⟩)] W fun e w' => e = .returned (.tuple #[.int .i64 sa, .int .i64 sl]) ∧ Grows W w' from fun W hW => by
          have h0 := sum_use hW (by have := HNN.out; omega)
          rw [hsa, hsl] at h0
          exact h0)
        have HSB := Lib.hid (show ∀ W, RbAt W q A2 c2 l2 → Calls Try.prog 21 #[.pointer (some ⟨q, 0, none⟩)] W fun e w' => e = .returned (.tuple #[.int .i64 sa, .int .i64 sl]) ∧ Grows W w' from fun W hW => by
          have h0 := rsum_use hW (HOK2.out.mono (Nat.le_refl _) (by omega)) (by have := HNN.out; omega)
          rw [hsa, hsl] at h0
          exact h0)
        clear hhe hue hsa hsl
        go_wp2_with (fail)
        refine HOA.out.mono ?_
        rintro e w4 ⟨rfl, hg4⟩
        obtain ⟨W4, hW4⟩ : ∃ W, w4.alloc (.cells #[.int .i64 u0, .int .i64 u1, .int .i64 u2] 34) = W := ⟨_, rfl⟩
        have H4 := Lib.hid (show Grows wc W4 ∧ Whole W4 w4.heap.size 34 #[.int .i64 u0, .int .i64 u1, .int .i64 u2] from ⟨Grows.trans hg4 (hW4 ▸ grows_alloc _ _), by rw [← hW4]; exact Whole.made _ _ _⟩)
        clear hg4 d0 d1 d2 d3
        have qq := H4.out.1.whole HB3.out.2.2.2.1
        have d0 := qq.cell 0
        have d1 := qq.cell 1
        have d2 := qq.cell 2
        have d3 := qq.cell 3
        simp only [List.getElem?_toArray, List.getElem?_cons_zero, List.getElem?_cons_succ] at d0 d1 d2 d3
        clear qq
        go_wp2_with (first | rw [hW4] | fail)
        clear hW4 d0 d1 d2 d3
        refine (HOB.out W4 (HB3.out.2.1.grow H4.out.1)).mono ?_
        rintro e w5 ⟨rfl, hg5⟩
        obtain ⟨W5, hW5⟩ : ∃ W, w5.alloc (.cells #[.int .i64 u0, .int .i64 u1, .int .i64 u2] 34) = W := ⟨_, rfl⟩
        have H5 := Lib.hid (show Grows wc W5 ∧ Whole W5 w4.heap.size 34 #[.int .i64 u0, .int .i64 u1, .int .i64 u2] ∧ Whole W5 w5.heap.size 34 #[.int .i64 u0, .int .i64 u1, .int .i64 u2] from by
          have hg : Grows W4 W5 := Grows.trans hg5 (hW5 ▸ grows_alloc _ _)
          exact ⟨Grows.trans H4.out.1 hg, hg.whole H4.out.2, by rw [← hW5]; exact Whole.made _ _ _⟩)
        clear hg5
        go_wp2_with (first | rw [hW5] | fail)
        clear hW5
        refine (HSA.out W5 (HB3.out.1.grow H5.out.1)).mono ?_
        rintro e w6 ⟨rfl, hg6⟩
        have H6 := Lib.hid (show Grows wc w6 ∧ Grows W5 w6 from ⟨Grows.trans H5.out.1 hg6, hg6⟩)
        clear hg6
        go_wp2_with (fail)
        refine (HSB.out w6 (HB3.out.2.1.grow H6.out.1)).mono ?_
        rintro e w7 ⟨rfl, hg7⟩
        have H7 := Lib.hid (show Grows wc w7 ∧ Grows W5 w7 from ⟨Grows.trans H6.out.1 hg7, Grows.trans H6.out.2 hg7⟩)
        have q4 := H7.out.2.whole H5.out.2.1
        have q5 := H7.out.2.whole H5.out.2.2
        have e0 := q4.cell 0
        have e1 := q4.cell 1
        have e2 := q4.cell 2
        have f0 := q5.cell 0
        have f1 := q5.cell 1
        have f2 := q5.cell 2
        simp only [List.getElem?_toArray, List.getElem?_cons_zero, List.getElem?_cons_succ] at e0 e1 e2 f0 f1 f2
        have heq := fun w => show (Op.equalIn 10000 34 (.agg #[.int .i64 u0, .int .i64 u1, .int .i64 u2]) (.agg #[.int .i64 u0, .int .i64 u1, .int .i64 u2])).run Try.prog w = .ok true w from by rw [eq_use3]; simp
        have hhh : (hh != hh) = false := by cases hh <;> rfl
        have hrr : (r != r) = false := by cases r <;> rfl
        have hs1 : (sa != sa) = false := by simp
        have hs2 : (sl != sl) = false := by simp
        have HAL := Lib.hid (all_use (HB3.out.1.grow H7.out.1) (by have := HNN.out; omega))
        clear hg7 q4 q5
        go_wp2_with (fail)
        clear e0 e1 e2 f0 f1 f2 heq
        refine HAL.out.mono ?_
        rintro e w8 ⟨B8, c8, rfl, ho8, hg8⟩
        have H8 := Lib.hid (show Uss w8 B8 l2.length c8 l2 ∧ Grows wc w8 from ⟨Rs.owned usL rfl ho8, Grows.trans H7.out.1 hg8⟩)
        have HRL := Lib.hid (rall_use (HB3.out.2.1.grow H8.out.2) (by have := HOK2.out.few; omega))
        clear ho8 hg8 HAL
        go_wp2_with (fail)
        refine HRL.out.mono ?_
        rintro e w9 ⟨B9, c9, rfl, ho9, hg9⟩
        have HSM := Lib.hid (show Calls Try.prog 22 #[.slice B8 l2.length c8, .slice B9 l2.length c9] w9 fun e w' => e = .returned (.bool true) ∧ Grows w9 w' from by
          have h0 := same_uses B8 l2.length c8 B9 l2.length c9 l2 l2 w9 (Rs.grow H8.out.1 hg9) (Rs.owned usL rfl ho9) (by have := HOK2.out.few; omega)
          rw [decide_eq_true (rfl : l2 = l2)] at h0
          exact h0)
        have H9 := Lib.hid (Grows.trans H8.out.2 hg9)
        clear ho9 hg9 HRL
        go_wp2_with (fail)
        refine HSM.out.mono ?_
        rintro e w10 ⟨rfl, hg10⟩
        have H10 := Lib.hid (Grows.trans H9.out hg10)
        have HWA := Lib.hid (worst_use (HB3.out.1.grow H10.out) (by have := HNN.out; omega))
        clear hg10 HSM
        go_wp2_with (fail)
        refine HWA.out.mono ?_
        rintro e w11 ⟨B1, c11, ws, rfl, hw1, ho11, hg11⟩
        have H11 := Lib.hid (show Rs w11 B1 ws.length c11 segV 1 ws ∧ Worst l2 ws ∧ Grows wc w11 from ⟨Rs.owned segV_len rfl ho11, hw1, Grows.trans H10.out hg11⟩)
        have HWB := Lib.hid (rworst_use (HB3.out.2.1.grow H11.out.2.2) (HOK2.out.mono (Nat.le_refl _) (by omega)))
        clear hw1 ho11 hg11 HWA
        go_wp2_with (fail)
        refine HWB.out.mono ?_
        rintro e w12 ⟨B2, c12, ws2, rfl, hw2, ho12, hg12⟩
        obtain rfl : ws2 = ws := worst_one HOK2.out.rise hw2 H11.out.2.1
        have HSI := Lib.hid (show Calls Try.prog 25 #[.slice B1 ws2.length c11, .slice B2 ws2.length c12] w12 fun e w' => e = .returned (.bool true) ∧ Grows w12 w' from by
          have h0 := same_intsB B1 ws2.length c11 B2 ws2.length c12 (ws2.map (·.seg)) (ws2.map (·.seg)) w12 (row_seg (Rs.grow H11.out.1 hg12)) (row_seg (Rs.owned segV_len rfl ho12)) (by have := hw2.1.length_eq; have := HOK2.out.few; omega)
          rw [decide_eq_true (rfl : ws2.map (·.seg) = ws2.map (·.seg))] at h0
          exact h0)
        have H12 := Lib.hid (Grows.trans H11.out.2.2 hg12)
        clear hw2 ho12 hg12 HWB
        go_wp2_with (fail)
        refine HSI.out.mono ?_
        rintro e w13 ⟨rfl, hg13⟩
        have hgz := Grows.trans H12.out hg13
        clear hg13
        go_wp2_with (fail)
        go_roundw
        case rel => exact ⟨i + 1, nb + 1, l2, A2, c2, by have := HNN.out; omega, by go_num, Lib.hid (HB3.out.1.grow hgz), Lib.hid (HB3.out.2.1.grow hgz), Lib.hid (by have := HNN.out; omega), Lib.hid HB3.out.2.2.1, Lib.hid (Grows.trans HB3.out.2.2.2.2 hgz)⟩
        case measure => have := HNN.out; simp [intOf]; omega
    · obtain rfl : i = n := by omega
      go_wp2_with (fail)
      go_ret
      exact ⟨rfl, HG.out⟩


set_option maxRecDepth 100000 in
theorem bookPlays_lifted (os : Os) (started : os.Started) (H : Type) (enc : TypeId × Value → H) :
    ReturnsInHanded {} Try.checked os 3 .any (Rows.bookPlaysSpec.pre6 enc Try.prog Try.f3 Rows.bookPlaysRow.domain false) (Rows.bookPlaysSpec.post enc Try.prog Try.f3 false true false false) := by
  refine lift_law (C := Try.checked) H enc own started (by kernel_rfl) Try.func3
    (ChangeSpec.witness6 (enc := enc) (C := Try.checked) false ⟨#[], #[.slice none 0 0], []⟩ 16 (by kernel_rfl) (by kernel_rfl) (by kernel_rfl) (by kernel_rfl))
    laidOut (of_readable (by kernel_rfl)) rfl Try.underlying4 rfl (fun ds hd => ?_) (fun W base args ds p hval hA hsz => ?_)
  · match ds, hd with
    | [d1], _ => rfl
  · rw [Try.params3] at hA hval hsz
    obtain ⟨v0, vs0, d0, ds0, p0, q0, hargs, rfl, rfl, h0, r0⟩ := trodAll_cons hA
    obtain ⟨rfl, rfl, rfl⟩ := trodAll_nil r0
    obtain rfl : args = #[v0] := by cases args; simp_all
    obtain ⟨A0, n0, c0, xs0, rfl, hx0⟩ := open_ops12 (hval 0 22 v0 rfl rfl) h0
    exact bookPlays_law W A0 n0 c0 xs0 hx0

theorem bookPlays_over : Rows.bookPlaysRow.holds Try.pinned (OpenSpec.ofChange Rows.bookPlaysSpec) :=
  OpenClaim.holds_of_wide 3 Try.f3 rfl rfl rfl rfl rfl rfl rfl ⟨rfl, rfl, rfl, rfl, rfl⟩ rfl rfl rfl rfl rfl (by kernel_rfl) Try.func3 (by kernel_rfl)
    (of_decide_eq_true (by kernel_rfl)) (by unfold Func.isWrapper; first | (rw [if_pos (by decide +kernel)]; kernel_rfl) | (rw [if_neg (by decide +kernel)]; exact ⟨rfl, rfl⟩))
    (fun os started H enc _ => bookPlays_lifted os started H enc)
theorem bookPlays_holds : Rows.BookPlaysSaid := bookPlays_over
end Go.Proofs.Ytlldcogkcjnejaa
