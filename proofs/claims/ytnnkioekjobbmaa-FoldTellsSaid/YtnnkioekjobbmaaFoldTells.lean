/-
  Statement FoldTells: where each key's last record stands, of any hints of any segments, and those of keys that have a value, are the document's. Every list of numbers, and every list of lists of hints, no condition.
-/
import Derived.Test.YtnnkioekjobbmaaFdHead
import Derived.Test.YtnnkioekjobbmaaFdGreat
import Derived.Test.YtnnkioekjobbmaaFdRFold
import Derived.Test.YtnnkioekjobbmaaFdIn
import Derived.ProofKit
import Derived.ChangeOld
namespace Go.Proofs.Ytnnkioekjobbmaa
open Go.ChangeShapes Go.WideShapes Go.ChangeAt Go.RowKit
set_option linter.unusedSimpArgs false
set_option linter.unusedVariables false
set_option maxRecDepth 100000 in
set_option maxHeartbeats 8000000 in
theorem foldTells_law (w : World) (SA : Option Addr) (sn sc : Nat) (segs : List Int) (hsg : Ins w SA sn sc segs) (A : Option Addr) (N c : Nat) (sl : List Sl3) (ls : List (List Ht)) (hx : Lls w A N c sl ls) (hN : N ≤ 6000000000000) (hm : ∀ l ∈ ls, l.length ≤ 4000000000000) :
    Calls Try.prog 3 #[.slice SA sn sc, .slice A N c] w fun e w' => e = .returned (.bool true) ∧ Below w.heap.size w w' := by
  have HX := Lib.hid (And.intro hsg (And.intro hx (And.intro hN hm)))
  clear hsg hx hN hm
  go_enter Try.func3, Try.ntmps3
  go_wp2_with (fail)
  refine (head14_any w).mono ?_
  rintro e w1 ⟨rfl, hg1⟩
  have HG1 := Lib.hid hg1
  have HGT := Lib.hid (great_any A N c sl ls w1 (HX.out.2.1.grow hg1) HX.out.2.2.1 HX.out.2.2.2)
  clear hg1
  go_wp2_with (fail)
  refine HGT.out.mono ?_
  rintro e w2 ⟨g, rfl, hsm, hg2⟩
  have HG2 := Lib.hid (Grows.trans HG1.out hg2)
  clear hg2 HGT
  cases g
  · obtain ⟨hN1, hM1⟩ := hsm rfl
    have HB := Lib.hid (And.intro hN1 hM1)
    clear hsm hN1 hM1
    by_cases hs : 200 < sn
    · have hs2 : (200 : Int) < (sn : Int) := by omega
      go_wp2_with (fail)
      go_ret
      exact ⟨rfl, HG2.out⟩
    · have hs2 : ¬ ((200 : Int) < (sn : Int)) := by omega
      have HF := Lib.hid (fold_any SA sn sc segs A N c sl ls w2 (HX.out.1.grow HG2.out) (HX.out.2.1.grow HG2.out) (by have := HB.out; omega) (by have := HB.out; omega))
      obtain ⟨r, hr⟩ : ∃ r, okFold segs ls = r := ⟨_, rfl⟩
      obtain ⟨L, hL⟩ : ∃ L, foldAll segs ls = L := ⟨_, rfl⟩
      have HL := Lib.hid (show L.length ≤ 9000 from by
        rw [← hL]
        unfold foldAll
        split
        · rw [List.length_map]
          exact Nat.le_trans (foldP_len ls) HB.out.2
        · exact Nat.zero_le _)
      have HR := Lib.hid (fun w3 (hg : Grows w2 w3) => rfold_any SA sn sc segs A N c sl ls w3 (HX.out.1.grow (Grows.trans HG2.out hg)) (HX.out.2.1.grow (Grows.trans HG2.out hg)) (by have := HB.out; omega) (by have := HB.out; omega))
      rw [hr, hL] at HF HR
      clear hr hL hs
      go_wp2_with (fail)
      refine HF.out.mono ?_
      rintro e w3 ⟨A1, n1, c1, rfl, o1, g3⟩
      have H3 := Lib.hid (And.intro o1 g3)
      clear o1 g3 HF
      go_wp2_with (fail)
      refine (HR.out w3 H3.out.2).mono ?_
      rintro e w4 ⟨A2, n2, c2, rfl, o2, g4⟩
      have H4 := Lib.hid (And.intro (H3.out.1.rs.grow g4) (And.intro o2.rs (show Grows w w4 from Grows.trans (Grows.trans HG2.out H3.out.2) g4)))
      have HN1 := Lib.hid (show n1 ≤ 9000 ∧ n2 ≤ 9000 from ⟨by have := H3.out.1.len; have := HL.out; omega, by have := o2.len; have := HL.out; omega⟩)
      clear o2 g4 HR H3
      have HS := Lib.hid (show Calls Try.prog 12 #[.slice A1 n1 c1, .slice A2 n2 c2] w4 fun e w' => e = .returned (.bool true) ∧ Grows w4 w' from by
        have h1 := same_any w4 H4.out.1 H4.out.2.1 (by have := HN1.out; omega)
        rwa [decide_eq_true rfl] at h1)
      have hrr : (r == r) = true := by cases r <;> rfl
      go_wp2_with (fail)
      refine HS.out.mono ?_
      rintro e w5 ⟨rfl, g5⟩
      have HLV := Lib.hid (live_any w5 (H4.out.1.grow g5) (by have := HN1.out; omega))
      have HG5 := Lib.hid g5
      clear g5 HS
      go_wp2_with (fail)
      refine HLV.out.mono ?_
      rintro e w6 ⟨A3, n3, c3, rfl, o3, g6⟩
      have HRV := Lib.hid (rlive_any w6 (H4.out.2.1.grow (Grows.trans HG5.out g6)) (by have := HN1.out; omega))
      have H6 := Lib.hid (And.intro o3 (Grows.trans HG5.out g6))
      clear o3 g6 HLV
      go_wp2_with (fail)
      refine HRV.out.mono ?_
      rintro e w7 ⟨A4, n4, c4, rfl, o4, g7⟩
      have HS2 := Lib.hid (show Calls Try.prog 12 #[.slice A3 n3 c3, .slice A4 n4 c4] w7 fun e w' => e = .returned (.bool true) ∧ Grows w7 w' from by
        have h1 := same_any w7 (H6.out.1.rs.grow g7) o4.rs (by
          have h2 := H6.out.1.len
          have h3 : (liveP L).length ≤ L.length := List.length_filter_le _ _
          have := HL.out
          omega)
        rwa [decide_eq_true rfl] at h1)
      have H7 := Lib.hid (Grows.trans H4.out.2.2 (Grows.trans H6.out.2 g7))
      clear o4 g7 HRV
      go_wp2_with (fail)
      refine HS2.out.mono ?_
      rintro e w8 ⟨rfl, g8⟩
      have H8 := Lib.hid (Grows.trans H7.out g8)
      clear g8
      go_wp2_with (fail)
      go_ret
      exact ⟨rfl, H8.out⟩
  · clear hsm
    go_wp2_with (fail)
    go_ret
    exact ⟨rfl, HG2.out⟩

set_option maxRecDepth 100000 in
theorem foldTells_lifted (os : Os) (started : os.Started) (H : Type) (enc : TypeId × Value → H) :
    ReturnsInHanded {} Try.checked os 3 .any (Rows.foldTellsSpec.pre6 enc Try.prog Try.f3 Rows.foldTellsRow.domain false) (Rows.foldTellsSpec.post enc Try.prog Try.f3 false true false false) := by
  refine lift_law (C := Try.checked) H enc own started (by kernel_rfl) Try.func3
    (ChangeSpec.witness6 (enc := enc) (C := Try.checked) false ⟨#[], #[.slice none 0 0, .slice none 0 0], []⟩ 16 (by kernel_rfl) (by kernel_rfl) (by kernel_rfl) (by kernel_rfl))
    laidOut (of_readable (by kernel_rfl)) rfl Try.underlying4 rfl (fun ds hd => ?_) (fun W base args ds p hval hA hsz => ?_)
  · match ds, hd with
    | [d1, d2], _ => rfl
  · rw [Try.params3] at hA hval hsz
    obtain ⟨v0, vs0, d0, ds0, p0, q0, hargs, rfl, rfl, h0, r0⟩ := trodAll_cons hA
    obtain ⟨v1, vs1, d1, ds1, p1, q1, rfl, rfl, rfl, h1, r1⟩ := trodAll_cons r0
    obtain ⟨rfl, rfl, rfl⟩ := trodAll_nil r1
    obtain rfl : args = #[v0, v1] := by cases args; simp_all
    obtain ⟨A0, n0, c0, xs0, rfl, hx0⟩ := open_insF (hval 0 22 v0 rfl rfl) h0
    obtain ⟨A1, n1, c1, sl1, xs1, rfl, hx1, hb1, hc1⟩ := open_llsF (hval 1 23 v1 rfl rfl) h1 hsz (j := 1) rfl rfl
    exact foldTells_law W A0 n0 c0 xs0 hx0 A1 n1 c1 sl1 xs1 hx1 hb1 hc1

theorem foldTells_over : Rows.foldTellsRow.holds Try.pinned (OpenSpec.ofChange Rows.foldTellsSpec) :=
  OpenClaim.holds_of_wide 3 Try.f3 rfl rfl rfl rfl rfl rfl rfl ⟨rfl, rfl, rfl, rfl, rfl⟩ rfl rfl rfl rfl rfl (by kernel_rfl) Try.func3 (by kernel_rfl)
    (of_decide_eq_true (by kernel_rfl)) (by unfold Func.isWrapper; first | (rw [if_pos (by decide +kernel)]; kernel_rfl) | (rw [if_neg (by decide +kernel)]; exact ⟨rfl, rfl⟩))
    (fun os started H enc _ => foldTells_lifted os started H enc)
theorem foldTells_holds : Rows.FoldTellsSaid := foldTells_over
end Go.Proofs.Ytnnkioekjobbmaa