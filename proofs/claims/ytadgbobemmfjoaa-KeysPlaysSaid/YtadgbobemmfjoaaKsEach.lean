/-
  keys: all places of a row, told one by one.
-/
import Derived.Test.YtadgbobemmfjoaaKsIdx
namespace Go.Proofs.Ytadgbobemmfjoaa
open Go.RowKit
set_option linter.unusedVariables false
set_option linter.unusedSimpArgs false

set_option maxHeartbeats 1000000 in
theorem each_spread {tb : Nat} {b o g : Nat} {S : Nat → Prop} {cells : List (List Pl)} {vs : List Value} (w : World) (h : RowAt w b o S g cells vs) (hn : cells.length ≤ 1000000 ∧ cells.flatten.length ≤ 1000000) (J : List Pl → World → Prop)
    (hC : ∀ l w', J l w' → CellsV w' S g cells vs) (hG : ∀ l w' w'', J l w' → Grows w' w'' → J l w'') (h0 : J [] w)
    (hS : ∀ done p w', J done w' → (∃ rest, cells.flatten = done ++ p :: rest) → Calls Try.prog 37 #[plV p, .pointer (some ⟨tb, 0, none⟩)] w' fun e w'' => e = .returned (.tuple #[]) ∧ J (done ++ [p]) w'') :
    Calls Try.prog 36 #[.pointer (some ⟨b, o, none⟩), .func (.func 37) #[] #[.pointer (some ⟨tb, 0, none⟩)]] w fun e w' => e = .returned (.tuple #[]) ∧ J cells.flatten w' := by
  have c0 := h.c0
  have H0 := Lib.hid h0
  have HC := Lib.hid hC
  have HG := Lib.hid hG
  have HS := Lib.hid hS
  obtain ⟨N, hN⟩ : ∃ N, cells.length = N := ⟨_, rfl⟩
  have hfl : ∀ (c : Nat) (l : List Pl), cells[c]? = some l → l.length ≤ 1000000 := fun c l hl => by
    have h1 := set_flat_len (m := []) hl
    simp only [List.length_nil] at h1
    omega
  have HFL := Lib.hid hfl
  have HLEN := Lib.hid hN
  rw [hN] at c0 hn
  have hN2 := hn.1
  have HTK := Lib.hid (show ∀ (c : Nat) (l : List Pl), cells[c]? = some l → (cells.take (c + 1)).flatten = (cells.take c).flatten ++ l from fun c l hl => by
    rw [List.take_add_one, hl, List.flatten_append]
    simp)
  have HFR := Lib.hid (show ∀ (c j : Nat) (l : List Pl) (p : Pl), cells[c]? = some l → l[j]? = some p → ∃ rest, cells.flatten = ((cells.take c).flatten ++ l.take j) ++ p :: rest from fun c j l p hl hp => by
    have hc := (List.getElem?_eq_some_iff.1 hl).1
    have hj := (List.getElem?_eq_some_iff.1 hp).1
    refine ⟨l.drop (j + 1) ++ (cells.drop (c + 1)).flatten, ?_⟩
    have e1 : cells = cells.take c ++ l :: cells.drop (c + 1) := by
      rw [← (List.getElem?_eq_some_iff.1 hl).2, List.getElem_cons_drop, List.take_append_drop]
    have e2 : l = l.take j ++ p :: l.drop (j + 1) := by
      rw [← (List.getElem?_eq_some_iff.1 hp).2, List.getElem_cons_drop, List.take_append_drop]
    have e3 : cells.flatten = (cells.take c ++ l :: cells.drop (c + 1)).flatten := by rw [← e1]
    rw [e3, List.flatten_append, List.flatten_cons]
    have e4 : l ++ (cells.drop (c + 1)).flatten = l.take j ++ p :: (l.drop (j + 1) ++ (cells.drop (c + 1)).flatten) := by
      conv => lhs; rw [e2]
      simp
    rw [e4]
    simp)
  clear h h0 hC hG hS hfl hN hn
  go_enter Try.func36, Try.ntmps36
  go_wp2_with (fail)
  go_loopw [13] (fun vi wr => ∃ (i : Nat), i ≤ N ∧ vi = .int .i64 (i : Int) ∧ Hid (J ((cells.take i).flatten) wr)) (fun vi _ => N - (intOf vi).toNat)
  case atStart => exact ⟨0, Nat.zero_le _, rfl, H0⟩
  case round =>
    obtain ⟨i, hi, rfl, HJ⟩ := hrel
    by_cases hlt : i < N
    · obtain ⟨l, A, cap, hl, hv, hcell, ho, hP, hD⟩ := (HC.out _ _ HJ.out).at (show i < cells.length by have := HLEN.out; omega)
      obtain ⟨M, hM⟩ : ∃ M, l.length = M := ⟨_, rfl⟩
      rw [hM] at hcell
      have HM := Lib.hid (And.intro hM (And.intro hl (show M ≤ 1000000 from by rw [← hM]; exact HFL.out i l hl)))
      have k0 : (0 : Int) ≤ (i : Int) := by omega
      have k1 : (i : Int) < (N : Int) := by omega
      have k2 : M ≤ 1000000 := HM.out.2.2
      have HJ0 := Lib.hid (show J ((cells.take i).flatten ++ l.take 0) wr from by simpa using HJ.out)
      have HV := Lib.hid hv
      clear hv ho hP hD hM hl
      go_wp2_with (fail)
      clear hcell
      go_loopw [19] (fun vj wr => ∃ (j : Nat), j ≤ M ∧ vj = .int .i64 (j : Int) ∧ Hid (J ((cells.take i).flatten ++ l.take j) wr)) (fun vj _ => M - (intOf vj).toNat)
      case atStart => exact ⟨0, Nat.zero_le _, rfl, HJ0⟩
      case round =>
        obtain ⟨j, hj, rfl, HK⟩ := hrel
        by_cases hlt2 : j < M
        · obtain ⟨l2, A2, cap2, hl2, hv2, hcell2, ho2, hP2, hD2⟩ := (HC.out _ _ HK.out).at (show i < cells.length by have := HLEN.out; omega)
          obtain rfl : l2 = l := by have h1 := HM.out.2.1; rw [hl2] at h1; exact Option.some.inj h1
          have e2 := HV.out
          rw [hv2] at e2
          injection e2 with e2
          injection e2 with e3 e4 e5
          subst e3 e5
          rw [HM.out.1] at hP2
          obtain ⟨ad, p, rfl, hp, hbl, hc⟩ := Pls.at hP2 hlt2
          obtain ⟨q0, q1, q2, q3, q4⟩ := hc wr (Grows.refl _)
          have hCP := fun w' => HS.out ((cells.take i).flatten ++ l2.take j) p w'
          have HP := Lib.hid hp
          obtain ⟨p0, p1, p2, p3, p4⟩ := p
          dsimp only at q0 q1 q2 q3 q4
          have hg1 := grows_alloc wr (.cells #[.int .i64 p0, .int .i64 p1, .string ⟨p2.toArray⟩, .int .i64 p3, .int .i64 p4] 32)
          have hm1 := Whole.made wr 32 #[.int .i64 p0, .int .i64 p1, .string ⟨p2.toArray⟩, .int .i64 p3, .int .i64 p4]
          obtain ⟨W1, hW1⟩ : ∃ W1, wr.alloc (.cells #[.int .i64 p0, .int .i64 p1, .string ⟨p2.toArray⟩, .int .i64 p3, .int .i64 p4] 32) = W1 := ⟨_, rfl⟩
          rw [hW1] at hg1 hm1
          have d0 := hm1.cell 0
          have d1 := hm1.cell 1
          have d2 := hm1.cell 2
          have d3 := hm1.cell 3
          have d4 := hm1.cell 4
          simp only [List.getElem?_toArray, List.getElem?_cons_zero, List.getElem?_cons_succ] at d0 d1 d2 d3 d4
          have HCALL := Lib.hid (hCP W1 (HG.out _ _ _ HK.out hg1) (HFR.out i j l2 _ HM.out.2.1 HP.out))
          have j0 : (0 : Int) ≤ (j : Int) := by omega
          have j1 : (j : Int) < (M : Int) := by omega
          clear hl2 hv2 hcell2 ho2 hP2 hD2 hp hbl hc hCP hg1 hm1
          go_wp2_with (first | rw [hW1] | fail)
          refine HCALL.out.mono ?_
          rintro e w4 ⟨rfl, hj4⟩
          have HJ4 := Lib.hid hj4
          clear hj4 d0 d1 d2 d3 d4 q0 q1 q2 q3 q4
          go_wp2_with (fail)
          go_roundw
          case rel =>
            refine ⟨j + 1, by omega, by first | rfl | go_num, Lib.hid ?_⟩
            have h1 := HJ4.out
            rw [List.append_assoc] at h1
            have h2 : l2.take (j + 1) = l2.take j ++ [⟨p0, p1, p2, p3, p4⟩] := by rw [List.take_add_one, HP.out]; rfl
            rw [h2]
            exact h1
          case measure => simp [intOf]; omega
        · go_wp2_with (fail)
          go_roundw
          case rel =>
            refine ⟨i + 1, by omega, by first | rfl | go_num, Lib.hid ?_⟩
            obtain rfl : j = M := by omega
            rw [HTK.out i l HM.out.2.1]
            have h1 := HK.out
            rw [show l.take j = l from List.take_of_length_le (by have := HM.out.1; omega)] at h1
            exact h1
          case measure => simp [intOf]; omega
    · go_wp2_with (fail)
      refine bodyPost_end (results_none rfl _ _ _) rfl ?_
      obtain rfl : i = N := by omega
      refine ⟨rfl, ?_⟩
      have h1 := HJ.out
      rw [List.take_of_length_le (by have := HLEN.out; omega)] at h1
      exact h1
set_option maxHeartbeats 1000000 in
theorem each_tell {tb : Nat} {b o g : Nat} {S : Nat → Prop} {cells : List (List Pl)} {vs : List Value} (w : World) (h : RowAt w b o S g cells vs) (hn : cells.length ≤ 1000000 ∧ cells.flatten.length ≤ 1000000) (J : List Pl → World → Prop)
    (hC : ∀ l w', J l w' → CellsV w' S g cells vs) (hG : ∀ l w' w'', J l w' → Grows w' w'' → J l w'') (h0 : J [] w)
    (hS : ∀ done p w', J done w' → (∃ rest, cells.flatten = done ++ p :: rest) → Calls Try.prog 43 #[plV p, .pointer (some ⟨tb, 0, none⟩)] w' fun e w'' => e = .returned (.tuple #[]) ∧ J (done ++ [p]) w'') :
    Calls Try.prog 36 #[.pointer (some ⟨b, o, none⟩), .func (.func 43) #[] #[.pointer (some ⟨tb, 0, none⟩)]] w fun e w' => e = .returned (.tuple #[]) ∧ J cells.flatten w' := by
  have c0 := h.c0
  have H0 := Lib.hid h0
  have HC := Lib.hid hC
  have HG := Lib.hid hG
  have HS := Lib.hid hS
  obtain ⟨N, hN⟩ : ∃ N, cells.length = N := ⟨_, rfl⟩
  have hfl : ∀ (c : Nat) (l : List Pl), cells[c]? = some l → l.length ≤ 1000000 := fun c l hl => by
    have h1 := set_flat_len (m := []) hl
    simp only [List.length_nil] at h1
    omega
  have HFL := Lib.hid hfl
  have HLEN := Lib.hid hN
  rw [hN] at c0 hn
  have hN2 := hn.1
  have HTK := Lib.hid (show ∀ (c : Nat) (l : List Pl), cells[c]? = some l → (cells.take (c + 1)).flatten = (cells.take c).flatten ++ l from fun c l hl => by
    rw [List.take_add_one, hl, List.flatten_append]
    simp)
  have HFR := Lib.hid (show ∀ (c j : Nat) (l : List Pl) (p : Pl), cells[c]? = some l → l[j]? = some p → ∃ rest, cells.flatten = ((cells.take c).flatten ++ l.take j) ++ p :: rest from fun c j l p hl hp => by
    have hc := (List.getElem?_eq_some_iff.1 hl).1
    have hj := (List.getElem?_eq_some_iff.1 hp).1
    refine ⟨l.drop (j + 1) ++ (cells.drop (c + 1)).flatten, ?_⟩
    have e1 : cells = cells.take c ++ l :: cells.drop (c + 1) := by
      rw [← (List.getElem?_eq_some_iff.1 hl).2, List.getElem_cons_drop, List.take_append_drop]
    have e2 : l = l.take j ++ p :: l.drop (j + 1) := by
      rw [← (List.getElem?_eq_some_iff.1 hp).2, List.getElem_cons_drop, List.take_append_drop]
    have e3 : cells.flatten = (cells.take c ++ l :: cells.drop (c + 1)).flatten := by rw [← e1]
    rw [e3, List.flatten_append, List.flatten_cons]
    have e4 : l ++ (cells.drop (c + 1)).flatten = l.take j ++ p :: (l.drop (j + 1) ++ (cells.drop (c + 1)).flatten) := by
      conv => lhs; rw [e2]
      simp
    rw [e4]
    simp)
  clear h h0 hC hG hS hfl hN hn
  go_enter Try.func36, Try.ntmps36
  go_wp2_with (fail)
  go_loopw [13] (fun vi wr => ∃ (i : Nat), i ≤ N ∧ vi = .int .i64 (i : Int) ∧ Hid (J ((cells.take i).flatten) wr)) (fun vi _ => N - (intOf vi).toNat)
  case atStart => exact ⟨0, Nat.zero_le _, rfl, H0⟩
  case round =>
    obtain ⟨i, hi, rfl, HJ⟩ := hrel
    by_cases hlt : i < N
    · obtain ⟨l, A, cap, hl, hv, hcell, ho, hP, hD⟩ := (HC.out _ _ HJ.out).at (show i < cells.length by have := HLEN.out; omega)
      obtain ⟨M, hM⟩ : ∃ M, l.length = M := ⟨_, rfl⟩
      rw [hM] at hcell
      have HM := Lib.hid (And.intro hM (And.intro hl (show M ≤ 1000000 from by rw [← hM]; exact HFL.out i l hl)))
      have k0 : (0 : Int) ≤ (i : Int) := by omega
      have k1 : (i : Int) < (N : Int) := by omega
      have k2 : M ≤ 1000000 := HM.out.2.2
      have HJ0 := Lib.hid (show J ((cells.take i).flatten ++ l.take 0) wr from by simpa using HJ.out)
      have HV := Lib.hid hv
      clear hv ho hP hD hM hl
      go_wp2_with (fail)
      clear hcell
      go_loopw [19] (fun vj wr => ∃ (j : Nat), j ≤ M ∧ vj = .int .i64 (j : Int) ∧ Hid (J ((cells.take i).flatten ++ l.take j) wr)) (fun vj _ => M - (intOf vj).toNat)
      case atStart => exact ⟨0, Nat.zero_le _, rfl, HJ0⟩
      case round =>
        obtain ⟨j, hj, rfl, HK⟩ := hrel
        by_cases hlt2 : j < M
        · obtain ⟨l2, A2, cap2, hl2, hv2, hcell2, ho2, hP2, hD2⟩ := (HC.out _ _ HK.out).at (show i < cells.length by have := HLEN.out; omega)
          obtain rfl : l2 = l := by have h1 := HM.out.2.1; rw [hl2] at h1; exact Option.some.inj h1
          have e2 := HV.out
          rw [hv2] at e2
          injection e2 with e2
          injection e2 with e3 e4 e5
          subst e3 e5
          rw [HM.out.1] at hP2
          obtain ⟨ad, p, rfl, hp, hbl, hc⟩ := Pls.at hP2 hlt2
          obtain ⟨q0, q1, q2, q3, q4⟩ := hc wr (Grows.refl _)
          have hCP := fun w' => HS.out ((cells.take i).flatten ++ l2.take j) p w'
          have HP := Lib.hid hp
          obtain ⟨p0, p1, p2, p3, p4⟩ := p
          dsimp only at q0 q1 q2 q3 q4
          have hg1 := grows_alloc wr (.cells #[.int .i64 p0, .int .i64 p1, .string ⟨p2.toArray⟩, .int .i64 p3, .int .i64 p4] 32)
          have hm1 := Whole.made wr 32 #[.int .i64 p0, .int .i64 p1, .string ⟨p2.toArray⟩, .int .i64 p3, .int .i64 p4]
          obtain ⟨W1, hW1⟩ : ∃ W1, wr.alloc (.cells #[.int .i64 p0, .int .i64 p1, .string ⟨p2.toArray⟩, .int .i64 p3, .int .i64 p4] 32) = W1 := ⟨_, rfl⟩
          rw [hW1] at hg1 hm1
          have d0 := hm1.cell 0
          have d1 := hm1.cell 1
          have d2 := hm1.cell 2
          have d3 := hm1.cell 3
          have d4 := hm1.cell 4
          simp only [List.getElem?_toArray, List.getElem?_cons_zero, List.getElem?_cons_succ] at d0 d1 d2 d3 d4
          have HCALL := Lib.hid (hCP W1 (HG.out _ _ _ HK.out hg1) (HFR.out i j l2 _ HM.out.2.1 HP.out))
          have j0 : (0 : Int) ≤ (j : Int) := by omega
          have j1 : (j : Int) < (M : Int) := by omega
          clear hl2 hv2 hcell2 ho2 hP2 hD2 hp hbl hc hCP hg1 hm1
          go_wp2_with (first | rw [hW1] | fail)
          refine HCALL.out.mono ?_
          rintro e w4 ⟨rfl, hj4⟩
          have HJ4 := Lib.hid hj4
          clear hj4 d0 d1 d2 d3 d4 q0 q1 q2 q3 q4
          go_wp2_with (fail)
          go_roundw
          case rel =>
            refine ⟨j + 1, by omega, by first | rfl | go_num, Lib.hid ?_⟩
            have h1 := HJ4.out
            rw [List.append_assoc] at h1
            have h2 : l2.take (j + 1) = l2.take j ++ [⟨p0, p1, p2, p3, p4⟩] := by rw [List.take_add_one, HP.out]; rfl
            rw [h2]
            exact h1
          case measure => simp [intOf]; omega
        · go_wp2_with (fail)
          go_roundw
          case rel =>
            refine ⟨i + 1, by omega, by first | rfl | go_num, Lib.hid ?_⟩
            obtain rfl : j = M := by omega
            rw [HTK.out i l HM.out.2.1]
            have h1 := HK.out
            rw [show l.take j = l from List.take_of_length_le (by have := HM.out.1; omega)] at h1
            exact h1
          case measure => simp [intOf]; omega
    · go_wp2_with (fail)
      refine bodyPost_end (results_none rfl _ _ _) rfl ?_
      obtain rfl : i = N := by omega
      refine ⟨rfl, ?_⟩
      have h1 := HJ.out
      rw [List.take_of_length_le (by have := HLEN.out; omega)] at h1
      exact h1
end Go.Proofs.Ytadgbobemmfjoaa
