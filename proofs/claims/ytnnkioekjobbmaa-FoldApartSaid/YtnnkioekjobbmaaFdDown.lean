/-
  container/heap's down, Push, Pop at fold's heap.
-/
import Derived.Test.YtnnkioekjobbmaaFdHeap
namespace Go.Proofs.Ytnnkioekjobbmaa
open Go.RowKit
set_option linter.unusedVariables false
set_option linter.unusedSimpArgs false

def SameFrom (n : Nat) (a b : List El) : Prop := ∀ q, n ≤ q → a[q]! = b[q]!
def AnyBool (e : Ending) : Prop := ∃ b, e = .returned (.bool b)
set_option maxRecDepth 100000 in
set_option maxHeartbeats 8000000 in
theorem down_heap {W0 : World} {h : Nat} {l : List El} {K : Nat → Prop} {w : World} (hh : HpK W0 w h l K) (n i : Nat) (hn : n ≤ l.length) (hd : DownInv ltE n i l) (hi : i ≤ 1000000) :
    Calls Try.prog 29 #[.iface 47 (.pointer (some ⟨h, 0, none⟩)), .int .i64 (i : Int), .int .i64 (n : Int)] w fun e w' => AnyBool e ∧ ∃ l', l'.Perm l ∧ IsHeap ltE n l' ∧ SameFrom n l' l ∧ HpK W0 w' h l' K ∧ Spares K w w' := by
  have HH := Lib.hid (And.intro hh (And.intro hd (And.intro hn hi)))
  clear hh hd hn hi
  go_enter Try.func29, Try.ntmps29
  go_wp2_with (fail)
  go_loopw [7, 8, 9, 10] (fun a _ _ _ wr => ∃ (t : Nat) (m : List El), a = .int .i64 (t : Int) ∧ Hid (HpK W0 wr h m K) ∧ Hid (DownInv ltE n t m) ∧ Hid (m.Perm l ∧ SameFrom n m l) ∧ Hid (Spares K w wr) ∧ Hid (t ≤ 1000000)) (fun a _ _ _ _ => n - (intOf a).toNat)
  case atStart => exact ⟨i, l, rfl, Lib.hid HH.out.1, Lib.hid HH.out.2.1, Lib.hid ⟨List.Perm.refl _, fun _ _ => rfl⟩, Lib.hid (Spares.refl _ _), Lib.hid HH.out.2.2.2⟩
  case round =>
    obtain ⟨t, m, rfl, HM, HU, HP, HS, HT⟩ := hrel
    obtain ⟨A, c, hk1, hk2, hk3⟩ := HM.out
    have hfew := hk1.few
    have hml : m.length = l.length := HP.out.1.length_eq
    have hnl := HH.out.2.2.1
    have ht1 := HT.out
    obtain ⟨t2, ht2⟩ : ∃ p, 2 * t = p := ⟨_, rfl⟩
    obtain ⟨j1, hj1⟩ : ∃ p, t2 + 1 = p := ⟨_, rfl⟩
    obtain ⟨j2, hj2⟩ : ∃ p, j1 + 1 = p := ⟨_, rfl⟩
    have q0 : 2 * (t : Int) = (t2 : Int) := by omega
    have q1 : (t2 : Int) + 1 = (j1 : Int) := by omega
    have q2 : (j1 : Int) + 1 = (j2 : Int) := by omega
    have q3 := (wrapI (x := (t2 : Int)) (by omega) (by omega)).2
    have q4 := (wrapI (x := (j1 : Int)) (by omega) (by omega)).2
    have q5 := (wrapI (x := (j2 : Int)) (by omega) (by omega)).2
    have q6 : ¬ ((j1 : Int) < 0) := by omega
    have HN := Lib.hid (show t2 = 2 * t ∧ j1 = t2 + 1 ∧ j2 = j1 + 1 ∧ n ≤ m.length from ⟨ht2.symm, hj1.symm, hj2.symm, by omega⟩)
    obtain ⟨n0, hn0⟩ : ∃ n, m.length = n := ⟨_, rfl⟩
    have HX := Lib.hid (And.intro hk1 (And.intro hk2 (And.intro hk3 hn0)))
    clear hk1 hk2 hk3 hfew hml hnl ht1 ht2 hj1 hj2 hn0
    by_cases hleaf : n ≤ j1
    · have HLF := Lib.hid hleaf
      have hq : (n : Int) ≤ (j1 : Int) := by omega
      clear hleaf
      go_wp2_with (fail)
      go_ret
      exact ⟨⟨_, rfl⟩, m, HP.out.1, down_leaf HU.out (by have := HN.out; have := HLF.out; omega), HP.out.2, HM.out, HS.out⟩
    have hq : ¬ (n : Int) ≤ (j1 : Int) := by omega
    have HN := Lib.hid (show j1 < n ∧ t2 = 2 * t ∧ j1 = t2 + 1 ∧ j2 = j1 + 1 ∧ n ≤ m.length from ⟨by omega, HN.out⟩)
    clear hleaf
    by_cases hin : n ≤ j2
    · have hq2 : ¬ (j2 : Int) < (n : Int) := by omega
      have HN := Lib.hid (show n ≤ j2 ∧ j1 < n ∧ t2 = 2 * t ∧ j1 = t2 + 1 ∧ j2 = j1 + 1 ∧ n ≤ m.length from ⟨hin, HN.out⟩)
      clear hin
      obtain ⟨r2, hr2⟩ : ∃ r, ltE m[j1]! m[t]! = r := ⟨_, rfl⟩
      have hmin : ∀ q, 0 < q → q < n → (q - 1) / 2 = t → ltE m[q]! m[j1]! = false := fun q hq0 hqn hqt => by
        obtain rfl : q = j1 := by have := HN.out; omega
        exact swoE.irrefl _
      have HQ := Lib.hid (And.intro hmin hr2)
      have hkW := HX.out.1
      have hm2 := meth_Less hkW.box
      rw [HX.out.2.2.2] at hm2
      have HL2 := Lib.hid (show Calls Try.prog 46 #[.slice A n0 c, .int .i64 (j1 : Int), .int .i64 (t : Int)] wr fun e w' => e = .returned (.bool r2) ∧ Grows wr w' from by
        have h0 := less_hp hkW j1 t (by have := HN.out; omega) (by have := HN.out; omega)
        rw [hr2, HX.out.2.2.2] at h0
        exact h0)
      have HKW := Lib.hid (show Hp W0 wr h m A c ∧ Spares K wr wr from ⟨hkW, Spares.refl _ _⟩)
      clear hmin hr2 hkW
      go_wp2_with (fail)
      refine HL2.out.mono ?_
      rintro e w4 ⟨rfl, hg4⟩
      cases r2
      · have HG4 := Lib.hid hg4
        clear hg4 hm2
        go_wp2_with (fail)
        go_ret
        exact ⟨⟨_, rfl⟩, m, HP.out.1, down_end swoE HU.out (by have := HN.out; omega) (by have := HN.out; omega) HQ.out.1 HQ.out.2, HP.out.2, ⟨A, c, HKW.out.1.grow HG4.out, HX.out.2.1, HX.out.2.2.1⟩, (HS.out.trans HKW.out.2).trans (Spares.grows HG4.out)⟩
      · have hk4 := HKW.out.1.grow hg4
        have hm3 := meth_Swap hk4.box
        rw [HX.out.2.2.2] at hm3
        have HSW := Lib.hid (show Calls Try.prog 49 #[.slice A n0 c, .int .i64 (t : Int), .int .i64 (j1 : Int)] w4 fun e w' => e = .returned (.tuple #[]) ∧ HpK W0 w' h (swp m t j1) K ∧ Spares K w4 w' from by
          have h0 := swap_hp hk4 HX.out.2.1 HX.out.2.2.1 t j1 (by have := HN.out; omega) (by have := HN.out; omega)
          rw [HX.out.2.2.2] at h0
          exact h0)
        have HG4 := Lib.hid hg4
        clear hg4 hm2 hk4
        go_wp2_with (fail)
        refine HSW.out.mono ?_
        rintro e w5 ⟨rfl, hk5, hs5⟩
        have H5 := Lib.hid (And.intro hk5 hs5)
        clear hk5 hs5 hm3
        go_wp2_with (fail)
        have hstep := down_step swoE HU.out (by have := HN.out; omega) (i := t) (j := j1) (by have := HN.out; omega) (by have := HN.out; omega) (by have := HN.out; omega) HQ.out.1 HQ.out.2
        have hlt : t < j1 ∧ j1 < n := by have := HN.out; omega
        go_roundw
        case rel => exact ⟨j1, swp m t j1, rfl, Lib.hid H5.out.1, Lib.hid hstep, Lib.hid ⟨(swp_perm (by have := HN.out; omega) (by have := HN.out; omega)).trans HP.out.1, fun q hq => by rw [swp_get (by have := HN.out; omega) (by have := HN.out; omega), if_neg (by omega), if_neg (by omega)]; exact HP.out.2 q hq⟩, Lib.hid (((HS.out.trans HKW.out.2).trans (Spares.grows HG4.out)).trans H5.out.2), Lib.hid (by have := HN.out; have := HX.out.1.few; omega)⟩
        case measure => simp [intOf]; omega
    have hq2 : (j2 : Int) < (n : Int) := by omega
    have HN := Lib.hid (show j2 < n ∧ j1 < n ∧ t2 = 2 * t ∧ j1 = t2 + 1 ∧ j2 = j1 + 1 ∧ n ≤ m.length from ⟨by omega, HN.out⟩)
    clear hin
    have hm := meth_Less HX.out.1.box
    rw [HX.out.2.2.2] at hm
    obtain ⟨r1, hr1⟩ : ∃ r, ltE m[j2]! m[j1]! = r := ⟨_, rfl⟩
    have HL := Lib.hid (show Calls Try.prog 46 #[.slice A n0 c, .int .i64 (j2 : Int), .int .i64 (j1 : Int)] wr fun e w' => e = .returned (.bool r1) ∧ Grows wr w' from by
      have h0 := less_hp HX.out.1 j2 j1 (by have := HN.out; omega) (by have := HN.out; omega)
      rw [hr1, HX.out.2.2.2] at h0
      exact h0)
    have HR1 := Lib.hid hr1
    clear hr1
    go_wp2_with (fail)
    refine HL.out.mono ?_
    rintro e w2 ⟨rfl, hg2⟩
    have HG2 := Lib.hid hg2
    clear hg2 hm
    cases r1
    · skip
      obtain ⟨r2, hr2⟩ : ∃ r, ltE m[j1]! m[t]! = r := ⟨_, rfl⟩
      have hmin : ∀ q, 0 < q → q < n → (q - 1) / 2 = t → ltE m[q]! m[j1]! = false := fun q hq0 hqn hqt => by
        rcases (show q = j1 ∨ q = j2 by have := HN.out; omega) with rfl | rfl
        · exact swoE.irrefl _
        · exact HR1.out
      have HQ := Lib.hid (And.intro hmin hr2)
      have hkW := HX.out.1.grow HG2.out
      have hm2 := meth_Less hkW.box
      rw [HX.out.2.2.2] at hm2
      have HL2 := Lib.hid (show Calls Try.prog 46 #[.slice A n0 c, .int .i64 (j1 : Int), .int .i64 (t : Int)] w2 fun e w' => e = .returned (.bool r2) ∧ Grows w2 w' from by
        have h0 := less_hp hkW j1 t (by have := HN.out; omega) (by have := HN.out; omega)
        rw [hr2, HX.out.2.2.2] at h0
        exact h0)
      have HKW := Lib.hid (show Hp W0 w2 h m A c ∧ Spares K wr w2 from ⟨hkW, Spares.grows HG2.out⟩)
      clear hmin hr2 hkW
      go_wp2_with (fail)
      refine HL2.out.mono ?_
      rintro e w4 ⟨rfl, hg4⟩
      cases r2
      · have HG4 := Lib.hid hg4
        clear hg4 hm2
        go_wp2_with (fail)
        go_ret
        exact ⟨⟨_, rfl⟩, m, HP.out.1, down_end swoE HU.out (by have := HN.out; omega) (by have := HN.out; omega) HQ.out.1 HQ.out.2, HP.out.2, ⟨A, c, HKW.out.1.grow HG4.out, HX.out.2.1, HX.out.2.2.1⟩, (HS.out.trans HKW.out.2).trans (Spares.grows HG4.out)⟩
      · have hk4 := HKW.out.1.grow hg4
        have hm3 := meth_Swap hk4.box
        rw [HX.out.2.2.2] at hm3
        have HSW := Lib.hid (show Calls Try.prog 49 #[.slice A n0 c, .int .i64 (t : Int), .int .i64 (j1 : Int)] w4 fun e w' => e = .returned (.tuple #[]) ∧ HpK W0 w' h (swp m t j1) K ∧ Spares K w4 w' from by
          have h0 := swap_hp hk4 HX.out.2.1 HX.out.2.2.1 t j1 (by have := HN.out; omega) (by have := HN.out; omega)
          rw [HX.out.2.2.2] at h0
          exact h0)
        have HG4 := Lib.hid hg4
        clear hg4 hm2 hk4
        go_wp2_with (fail)
        refine HSW.out.mono ?_
        rintro e w5 ⟨rfl, hk5, hs5⟩
        have H5 := Lib.hid (And.intro hk5 hs5)
        clear hk5 hs5 hm3
        go_wp2_with (fail)
        have hstep := down_step swoE HU.out (by have := HN.out; omega) (i := t) (j := j1) (by have := HN.out; omega) (by have := HN.out; omega) (by have := HN.out; omega) HQ.out.1 HQ.out.2
        have hlt : t < j1 ∧ j1 < n := by have := HN.out; omega
        go_roundw
        case rel => exact ⟨j1, swp m t j1, rfl, Lib.hid H5.out.1, Lib.hid hstep, Lib.hid ⟨(swp_perm (by have := HN.out; omega) (by have := HN.out; omega)).trans HP.out.1, fun q hq => by rw [swp_get (by have := HN.out; omega) (by have := HN.out; omega), if_neg (by omega), if_neg (by omega)]; exact HP.out.2 q hq⟩, Lib.hid (((HS.out.trans HKW.out.2).trans (Spares.grows HG4.out)).trans H5.out.2), Lib.hid (by have := HN.out; have := HX.out.1.few; omega)⟩
        case measure => simp [intOf]; omega
    · skip
      obtain ⟨r2, hr2⟩ : ∃ r, ltE m[j2]! m[t]! = r := ⟨_, rfl⟩
      have hmin : ∀ q, 0 < q → q < n → (q - 1) / 2 = t → ltE m[q]! m[j2]! = false := fun q hq0 hqn hqt => by
        rcases (show q = j1 ∨ q = j2 by have := HN.out; omega) with rfl | rfl
        · exact le_of_lt swoE HR1.out
        · exact swoE.irrefl _
      have HQ := Lib.hid (And.intro hmin hr2)
      have hkW := HX.out.1.grow HG2.out
      have hm2 := meth_Less hkW.box
      rw [HX.out.2.2.2] at hm2
      have HL2 := Lib.hid (show Calls Try.prog 46 #[.slice A n0 c, .int .i64 (j2 : Int), .int .i64 (t : Int)] w2 fun e w' => e = .returned (.bool r2) ∧ Grows w2 w' from by
        have h0 := less_hp hkW j2 t (by have := HN.out; omega) (by have := HN.out; omega)
        rw [hr2, HX.out.2.2.2] at h0
        exact h0)
      have HKW := Lib.hid (show Hp W0 w2 h m A c ∧ Spares K wr w2 from ⟨hkW, Spares.grows HG2.out⟩)
      clear hmin hr2 hkW
      go_wp2_with (fail)
      refine HL2.out.mono ?_
      rintro e w4 ⟨rfl, hg4⟩
      cases r2
      · have HG4 := Lib.hid hg4
        clear hg4 hm2
        go_wp2_with (fail)
        go_ret
        exact ⟨⟨_, rfl⟩, m, HP.out.1, down_end swoE HU.out (by have := HN.out; omega) (by have := HN.out; omega) HQ.out.1 HQ.out.2, HP.out.2, ⟨A, c, HKW.out.1.grow HG4.out, HX.out.2.1, HX.out.2.2.1⟩, (HS.out.trans HKW.out.2).trans (Spares.grows HG4.out)⟩
      · have hk4 := HKW.out.1.grow hg4
        have hm3 := meth_Swap hk4.box
        rw [HX.out.2.2.2] at hm3
        have HSW := Lib.hid (show Calls Try.prog 49 #[.slice A n0 c, .int .i64 (t : Int), .int .i64 (j2 : Int)] w4 fun e w' => e = .returned (.tuple #[]) ∧ HpK W0 w' h (swp m t j2) K ∧ Spares K w4 w' from by
          have h0 := swap_hp hk4 HX.out.2.1 HX.out.2.2.1 t j2 (by have := HN.out; omega) (by have := HN.out; omega)
          rw [HX.out.2.2.2] at h0
          exact h0)
        have HG4 := Lib.hid hg4
        clear hg4 hm2 hk4
        go_wp2_with (fail)
        refine HSW.out.mono ?_
        rintro e w5 ⟨rfl, hk5, hs5⟩
        have H5 := Lib.hid (And.intro hk5 hs5)
        clear hk5 hs5 hm3
        go_wp2_with (fail)
        have hstep := down_step swoE HU.out (by have := HN.out; omega) (i := t) (j := j2) (by have := HN.out; omega) (by have := HN.out; omega) (by have := HN.out; omega) HQ.out.1 HQ.out.2
        have hlt : t < j2 ∧ j2 < n := by have := HN.out; omega
        go_roundw
        case rel => exact ⟨j2, swp m t j2, rfl, Lib.hid H5.out.1, Lib.hid hstep, Lib.hid ⟨(swp_perm (by have := HN.out; omega) (by have := HN.out; omega)).trans HP.out.1, fun q hq => by rw [swp_get (by have := HN.out; omega) (by have := HN.out; omega), if_neg (by omega), if_neg (by omega)]; exact HP.out.2 q hq⟩, Lib.hid (((HS.out.trans HKW.out.2).trans (Spares.grows HG4.out)).trans H5.out.2), Lib.hid (by have := HN.out; have := HX.out.1.few; omega)⟩
        case measure => simp [intOf]; omega
set_option maxRecDepth 100000 in
set_option maxHeartbeats 4000000 in
theorem hpush_any {W0 : World} {h : Nat} {l : List El} {K : Nat → Prop} {w : World} (x : El) (hh : HpK W0 w h l (fun k => K k ∧ k ≠ x.blk)) (hK : ∀ k, w.heap.size ≤ k → K k) (hlo : ∀ k, K k → W0.heap.size ≤ k) (hx : ElIn W0 w x) (hxk : K x.blk) (hg : GoodE (l ++ [x])) (hl : l.length < 1000000) (hp : IsHeap ltE l.length l) :
    Calls Try.prog 26 #[.iface 47 (.pointer (some ⟨h, 0, none⟩)), .iface 51 (elV x)] w fun e w' => e = .returned (.tuple #[]) ∧ ∃ l', l'.Perm (l ++ [x]) ∧ IsHeap ltE l'.length l' ∧ HpK W0 w' h l' K ∧ Spares K w w' := by
  have HP := Lib.hid (push_heap x hh hK hlo hx hxk hg hl)
  have HH := Lib.hid (And.intro hp hl)
  have hm := meth_Push w h
  clear hh hK hlo hx hxk hg hl hp
  obtain ⟨n, hn⟩ : ∃ n, (l ++ [x]).length = n := ⟨_, rfl⟩
  obtain ⟨p, hp⟩ : ∃ p, l.length = p := ⟨_, rfl⟩
  have hnp : n = p + 1 := by rw [← hn, List.length_append, hp]; rfl
  have HU := Lib.hid (hp ▸ up_start x HH.out.1)
  have HN := Lib.hid (And.intro hn (And.intro hp hnp))
  obtain ⟨v, hv⟩ : ∃ v, elV x = v := ⟨_, rfl⟩
  rw [hv] at HP ⊢
  have q0 : (n : Int) - 1 = (p : Int) := by omega
  have q1 := (wrapI (x := (p : Int)) (by have := HH.out.2; omega) (by have := HH.out.2; omega)).2
  clear hn hp hnp hv
  go_enter Try.func26, Try.ntmps26
  go_wp2_with (fail)
  refine HP.out.mono ?_
  rintro e w1 ⟨rfl, hk1, hs1⟩
  obtain ⟨A, c, h1, h2, h3⟩ := hk1
  have hm1 := meth_Len h1.box
  rw [HN.out.1] at hm1
  have H1 := Lib.hid (show HpK W0 w1 h (l ++ [x]) K ∧ Spares K w w1 from ⟨⟨A, c, h1, h2, h3⟩, hs1⟩)
  clear h1 h2 h3 hs1 hm
  go_wp2_with (fail)
  refine (len_heap A n c w1).mono ?_
  rintro e w2 ⟨rfl, hw2⟩
  subst hw2
  have HUP := Lib.hid (up_heap H1.out.1 p HU.out)
  go_wp2_with (fail)
  refine HUP.out.mono ?_
  rintro e w3 ⟨rfl, l', h4, h5, h6, h7⟩
  have H3 := Lib.hid (And.intro h4 (And.intro h5 (And.intro h6 h7)))
  clear h4 h5 h6 h7
  go_wp2_with (fail)
  go_end0
  exact ⟨rfl, l', H3.out.1, H3.out.2.1, H3.out.2.2.1, H1.out.2.trans H3.out.2.2.2⟩
set_option maxRecDepth 100000 in
set_option maxHeartbeats 4000000 in
theorem hpop_any {W0 : World} {h : Nat} {l : List El} {K : Nat → Prop} {w : World} (hh : HpK W0 w h l K) (hlo : ∀ k, K k → W0.heap.size ≤ k) (hl : 0 < l.length) (hp : IsHeap ltE l.length l) :
    Calls Try.prog 27 #[.iface 47 (.pointer (some ⟨h, 0, none⟩))] w fun e w' => ∃ x l', e = .returned (.iface 51 (elV x)) ∧ l.Perm (x :: l') ∧ IsHeap ltE l'.length l' ∧ (∀ y ∈ l', ltE y x = false) ∧ (HpK W0 w' h l' (fun k => K k ∧ k ≠ x.blk) ∧ ElIn W0 w' x ∧ K x.blk) ∧ Spares K w w' := by
  obtain ⟨A, c, h1, h2, h3⟩ := hh
  have hfew := h1.few
  have hm := meth_Len h1.box
  have hm2 := meth_Swap h1.box
  obtain ⟨n, hn⟩ : ∃ n, l.length = n := ⟨_, rfl⟩
  obtain ⟨p, hpn⟩ : ∃ p, n - 1 = p := ⟨_, rfl⟩
  have HSW := Lib.hid (swap_hp h1 h2 h3 0 p (by omega) (by omega))
  have q0 : (n : Int) - 1 = (p : Int) := by omega
  have q1 := (wrapI (x := (p : Int)) (by omega) (by omega)).2
  rw [hn] at hm hm2 HSW
  have HX := Lib.hid (show l.length = n ∧ n = p + 1 ∧ IsHeap ltE l.length l from ⟨hn, by omega, hp⟩)
  have HLO := Lib.hid hlo
  clear h1 h2 h3 hl hp hfew hn hpn hlo
  go_enter Try.func27, Try.ntmps27
  go_wp2_with (fail)
  refine (len_heap A n c w).mono ?_
  rintro e w1 ⟨rfl, hw1⟩
  subst hw1
  go_wp2_with (fail)
  refine HSW.out.mono ?_
  rintro e w2 ⟨rfl, hk2, hs2⟩
  have HD := Lib.hid (down_heap hk2 p 0 (by rw [swp_length]; have := HX.out; omega) (down_start (by have := HX.out.2.2; rwa [HX.out.1, HX.out.2.1] at this) (by rw [HX.out.1, HX.out.2.1])) (by omega))
  have H2 := Lib.hid hs2
  clear hk2 hs2 hm hm2
  go_wp2_with (fail)
  refine HD.out.mono ?_
  rintro e w3 ⟨⟨rb, rfl⟩, m, h4, h5, h6, h7, h8⟩
  obtain ⟨x, e1, e2, e3, e4⟩ := pop_done swoE (by rw [HX.out.1, HX.out.2.1]) (by have := HX.out.2.2; rwa [HX.out.1, HX.out.2.1] at this) h4 (h6 p (Nat.le_refl _)) h5
  obtain ⟨m', hm'⟩ : ∃ m', m.take p = m' := ⟨_, rfl⟩
  rw [hm'] at e1 e2 e3 e4
  subst e1
  have HPO := Lib.hid (pop_heap h7 HLO.out)
  have H3 := Lib.hid (And.intro e2 (And.intro e3 (And.intro e4 h8)))
  have hm3 := meth_Pop w3 h
  clear h4 h5 h6 h7 h8 e2 e3 e4 hm'
  obtain ⟨v, hv⟩ : ∃ v, elV x = v := ⟨_, rfl⟩
  rw [hv] at HPO
  have HV := Lib.hid hv
  clear hv
  go_wp2_with (fail)
  refine HPO.out.mono ?_
  rintro e w4 ⟨rfl, h9, h11, h12, h10⟩
  have H4 := Lib.hid (And.intro (And.intro h9 (And.intro h11 h12)) h10)
  clear h9 h10 h11 h12
  go_wp2_with (fail)
  go_ret
  exact ⟨x, m', by rw [HV.out]; rfl, H3.out.1, H3.out.2.1, H3.out.2.2.1, H4.out.1, (H2.out.trans H3.out.2.2.2).trans H4.out.2⟩
end Go.Proofs.Ytnnkioekjobbmaa
