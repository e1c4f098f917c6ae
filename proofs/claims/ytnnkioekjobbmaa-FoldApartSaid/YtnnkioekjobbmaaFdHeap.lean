/-
  container/heap's up at fold's heap.
-/
import Derived.Test.YtnnkioekjobbmaaFdPush
namespace Go.Proofs.Ytnnkioekjobbmaa
open Go.RowKit
set_option linter.unusedVariables false
set_option linter.unusedSimpArgs false

theorem less_hp {W0 w : World} {h : Nat} {l : List El} {A : Option Addr} {c : Nat} (hp : Hp W0 w h l A c) (i j : Nat) (hi : i < l.length) (hj : j < l.length) :
    Calls Try.prog 46 #[.slice A l.length c, .int .i64 (i : Int), .int .i64 (j : Int)] w fun e w' => e = .returned (.bool (ltE l[i]! l[j]!)) ∧ Grows w w' := by
  obtain ⟨g, cap, hv, hbg, hlt⟩ := hp.own.form (by omega)
  injection hv with hA _ hc
  subst hA hc
  exact less_any hp rfl i j hi hj
theorem Hp.perm {W0 w w' : World} {h : Nat} {l l' : List El} {A : Option Addr} {c : Nat} (hp : Hp W0 w h l A c) (p : l'.Perm l) (hs : Spares (fun k => (Value.slice A l.length c).ownBlock = some k) w w') (ho : w'.ownsRow W0.heap.size 51 1 (.slice A l.length c) l.length (l'.flatMap elE)) : Hp W0 w' h l' A c := by
  have hl := p.length_eq
  refine ⟨?_, ?_, ?_, fun x hx => (hp.els x (p.mem_iff.1 hx)).same (hs.same _ (hp.els x (p.mem_iff.1 hx)).blk.lt (hp.far x (p.mem_iff.1 hx)).2), fun x hx => ?_, hp.good.perm p.symm, by rw [hl]; exact hp.few, ?_⟩
  · rw [hl]
    exact (hs.same h hp.box.lt hp.apart).trans hp.box
  · rw [hl]
    exact ho
  · rw [hl]
    exact hp.apart
  · rw [hl]
    exact hp.far x (p.mem_iff.1 hx)
  · exact ((Spares.grows (own := fun k => (Value.slice A l.length c).ownBlock = some k) hp.old).trans hs).below (Nat.le_refl _) fun k hk e => by have := (owned_lt3 hp.own e).1; omega
theorem swap_hp {W0 w : World} {h : Nat} {l : List El} {K : Nat → Prop} {A : Option Addr} {c : Nat} (hp : Hp W0 w h l A c) (hk : K h) (hk2 : (∀ k, (Value.slice A l.length c).ownBlock = some k → K k) ∧ ∀ x ∈ l, K x.blk) (i j : Nat) (hi : i < l.length) (hj : j < l.length) :
    Calls Try.prog 49 #[.slice A l.length c, .int .i64 (i : Int), .int .i64 (j : Int)] w fun e w' => e = .returned (.tuple #[]) ∧ HpK W0 w' h (swp l i j) K ∧ Spares K w w' := by
  obtain ⟨g, cap, hv, hbg, hlt⟩ := hp.own.form (by omega)
  injection hv with hA _ hc
  subst hA hc
  have h1 : (Value.slice (some ⟨g, 0, none⟩) l.length c).ownBlock = some g := rfl
  refine (swap_any W0.heap.size g l.length c l w hp.own i j hi hj hp.few).mono ?_
  rintro e w' ⟨rfl, ho, hs⟩
  have hpm := swp_perm hi hj
  have hsl := swp_length l i j
  refine ⟨rfl, ⟨some ⟨g, 0, none⟩, c, hp.perm hpm (hs.wider fun k _ e => e ▸ h1) ho, hk, ?_, fun x hx => hk2.2 x (hpm.mem_iff.1 hx)⟩, hs.wider fun k _ e => e ▸ hk2.1 g h1⟩
  rw [hsl]
  exact hk2.1
set_option maxRecDepth 100000 in
set_option maxHeartbeats 4000000 in
theorem up_heap {W0 : World} {h : Nat} {l : List El} {K : Nat → Prop} {w : World} (hh : HpK W0 w h l K) (j : Nat) (hu : UpInv ltE j l) :
    Calls Try.prog 28 #[.iface 47 (.pointer (some ⟨h, 0, none⟩)), .int .i64 (j : Int)] w fun e w' => e = .returned (.tuple #[]) ∧ ∃ l', l'.Perm l ∧ IsHeap ltE l'.length l' ∧ HpK W0 w' h l' K ∧ Spares K w w' := by
  have HH := Lib.hid (And.intro hh hu)
  clear hh hu
  go_enter Try.func28, Try.ntmps28
  go_wp2_with (fail)
  go_loopw [1, 4] (fun a b wr => ∃ (t : Nat) (m : List El), a = .int .i64 (t : Int) ∧ Hid (HpK W0 wr h m K) ∧ Hid (UpInv ltE t m) ∧ Hid (m.Perm l) ∧ Hid (Spares K w wr)) (fun a _ _ => (intOf a).toNat)
  case atStart => exact ⟨j, l, rfl, Lib.hid HH.out.1, Lib.hid HH.out.2, Lib.hid (List.Perm.refl _), Lib.hid (Spares.refl _ _)⟩
  case round =>
    obtain ⟨t, m, rfl, HM, HU, HP, HS⟩ := hrel
    by_cases ht0 : t = 0
    · subst ht0
      go_wp2_with (fail)
      go_end0
      exact ⟨rfl, m, HP.out, up_end HU.out (.inl rfl), HM.out, HS.out⟩
    · obtain ⟨A, c, hk1, hk2, hk3⟩ := HM.out
      have hfew := hk1.few
      obtain ⟨p, hp⟩ : ∃ p, t - 1 = p := ⟨_, rfl⟩
      obtain ⟨i, hi⟩ : ∃ i, p / 2 = i := ⟨_, rfl⟩
      have hit : (t - 1) / 2 = i := by rw [hp, hi]
      have htl : t < m.length := HU.out.1
      have k0 : (t : Int) - 1 = (p : Int) := by omega
      have k1 : (p : Int).tdiv 2 = (i : Int) := by
        rw [Int.tdiv_eq_ediv_of_nonneg (by omega)]
        omega
      have k2 := (wrapI (x := (p : Int)) (by omega) (by omega)).2
      have k3 := (wrapI (x := (i : Int)) (by omega) (by omega)).2
      have k4 : ((i : Int) == (t : Int)) = false := by rw [beq_eq_false_iff_ne]; omega
      have hm := meth_Less hk1.box
      obtain ⟨n, hn⟩ : ∃ n, m.length = n := ⟨_, rfl⟩
      rw [hn] at hm
      obtain ⟨r, hr⟩ : ∃ r, ltE m[t]! m[i]! = r := ⟨_, rfl⟩
      have HL := Lib.hid (show Calls Try.prog 46 #[.slice A n c, .int .i64 (t : Int), .int .i64 (i : Int)] wr fun e w' => e = .returned (.bool r) ∧ Grows wr w' from by
        have h0 := less_hp hk1 t i htl (by omega)
        rw [hr, hn] at h0
        exact h0)
      have HX := Lib.hid (And.intro hk1 (And.intro hk2 (And.intro hk3 (And.intro hit (And.intro htl (And.intro hn hr))))))
      have HT0 := Lib.hid ht0
      clear hk1 hk2 hk3 hit htl hn hr hp hi hfew ht0
      go_wp2_with (fail)
      refine HL.out.mono ?_
      rintro e w2 ⟨rfl, hg2⟩
      cases r
      · have HG := Lib.hid hg2
        clear hg2 hm
        go_wp2_with (fail)
        go_end0
        exact ⟨rfl, m, HP.out, up_end HU.out (.inr (by rw [HX.out.2.2.2.1]; exact HX.out.2.2.2.2.2.2)), HM.out.grow HG.out, HS.out.trans (Spares.grows HG.out)⟩
      · have hb2 : Boxed w2 h 49 (.slice A n c) := by
          have := HX.out.1.box
          rw [HX.out.2.2.2.2.2.1] at this
          exact (hg2.block _ this.lt).trans this
        have hm2 := meth_Swap hb2
        have HG := Lib.hid (And.intro hg2 hb2)
        clear hg2 hm hb2
        have HSW := Lib.hid (show Calls Try.prog 49 #[.slice A n c, .int .i64 (i : Int), .int .i64 (t : Int)] w2 fun e w' => e = .returned (.tuple #[]) ∧ HpK W0 w' h (swp m i t) K ∧ Spares K w2 w' from by
          have h0 := swap_hp (HX.out.1.grow HG.out.1) HX.out.2.1 HX.out.2.2.1 i t (by have := HX.out.2.2.2.1; have := HX.out.2.2.2.2.1; omega) HX.out.2.2.2.2.1
          rw [HX.out.2.2.2.2.2.1] at h0
          exact h0)
        go_wp2_with (fail)
        refine HSW.out.mono ?_
        rintro e w3 ⟨rfl, hk3, hs3⟩
        have H3 := Lib.hid (And.intro hk3 hs3)
        clear hk3 hs3 hm2
        go_wp2_with (fail)
        have hpos : 0 < t := by have := HT0.out; omega
        have hstep := up_step swoE HU.out hpos (by rw [HX.out.2.2.2.1]; exact HX.out.2.2.2.2.2.2)
        rw [HX.out.2.2.2.1] at hstep
        have hlt : i < t := by have := HX.out.2.2.2.1; omega
        go_roundw
        case rel => exact ⟨i, swp m i t, rfl, Lib.hid H3.out.1, Lib.hid hstep, Lib.hid ((swp_perm (by have := HX.out.2.2.2.2.1; omega) HX.out.2.2.2.2.1).trans HP.out), Lib.hid ((HS.out.trans (Spares.grows HG.out.1)).trans H3.out.2)⟩
        case measure => simp [intOf]; omega
end Go.Proofs.Ytnnkioekjobbmaa
