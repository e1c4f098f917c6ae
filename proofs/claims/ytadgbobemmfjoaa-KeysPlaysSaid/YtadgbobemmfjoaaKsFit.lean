/-
  keys: a row has more cells when they are full, and fewer when they are empty.
-/
import Derived.Test.YtadgbobemmfjoaaKsSpread
namespace Go.Proofs.Ytadgbobemmfjoaa
open Go.RowKit
set_option linter.unusedVariables false
set_option linter.unusedSimpArgs false

theorem wrapK {x : Int} (h1 : -9223372036854775808 ≤ x) (h2 : x ≤ 9223372036854775807) : IntKind.i64.wrap x = x ∧ wrap64 x = x := by
  rw [IntWalk.i64_in _ (by omega), IntWalk.wrap64_in _ (by omega)]
  exact ⟨rfl, rfl⟩
/-- Behind a call on a row. -/
def RowTo (w : World) (b o : Nat) (S : Nat → Prop) (cells : List (List Pl)) (t : TypeId) (f : Nat → Option Value) (w' : World) : Prop :=
  (∃ S', RowIn w' b o S' cells t f ∧ ∀ k, S' k → S k ∨ w.heap.size ≤ k) ∧ Spares (fun k => S k ∨ k = b) w w'
theorem RowIn.grow {w w' : World} {b o : Nat} {S : Nat → Prop} {cells : List (List Pl)} {t : TypeId} {f : Nat → Option Value} (h : RowIn w b o S cells t f) (hg : Grows w w') : RowIn w' b o S cells t f := by
  obtain ⟨g, vs, cs, h1, h2, h3, h4, h5, h6⟩ := h
  exact ⟨g, vs, cs, hg.whole h1, h2, h3, h4, h5.grow hg, h6⟩
theorem RowIn.keep {w w' : World} {b o : Nat} {S : Nat → Prop} {cells : List (List Pl)} {t : TypeId} {f : Nat → Option Value} (h : RowIn w b o S cells t f) (hg : Grows w w') : RowTo w b o S cells t f w' :=
  ⟨⟨S, h.grow hg, fun k hk => .inl hk⟩, Spares.grows hg⟩
theorem RowTo.ofGrows {w w0 w' : World} {b o : Nat} {S : Nat → Prop} {cells : List (List Pl)} {t : TypeId} {f : Nat → Option Value} (hg : Grows w w0) (h : RowTo w0 b o S cells t f w') : RowTo w b o S cells t f w' := by
  obtain ⟨⟨S', h1, h2⟩, h3⟩ := h
  exact ⟨⟨S', h1, fun k hk => (h2 k hk).imp_right fun e => Nat.le_trans hg.size e⟩, (Spares.grows hg).trans h3⟩
theorem RowTo.grows {w w0 w' : World} {b o : Nat} {S : Nat → Prop} {cells : List (List Pl)} {t : TypeId} {f : Nat → Option Value} (h : RowTo w b o S cells t f w0) (hg : Grows w0 w') : RowTo w b o S cells t f w' := by
  obtain ⟨⟨S', h1, h2⟩, h3⟩ := h
  exact ⟨⟨S', h1.grow hg, h2⟩, h3.trans (Spares.grows hg)⟩
set_option maxHeartbeats 1000000 in
set_option maxRecDepth 100000 in
theorem fit_any {r b o : Nat} {S : Nat → Prop} {cells : List (List Pl)} {t : TypeId} {f : Nat → Option Value} (w : World) (h : RowIn w b o S cells t f) (hp : RowPre r cells) (hn : cells.flatten.length ≤ 400000) (hk : ∀ p ∈ cells.flatten, p.key.length ≤ 1000000000) :
    Calls Try.prog 42 #[.pointer (some ⟨b, o, none⟩)] w fun e w' => e = .returned (.tuple #[]) ∧ RowTo w b o S (fitC cells) t f w' := by
  have hcl : cells.length ≤ 400001 := by have := hp.small; omega
  have hp0 := hp.pos
  obtain ⟨g, vs, hra⟩ := h.at
  have c0 := hra.c0
  have c1 := hra.c1
  have HX := Lib.hid (And.intro h (And.intro hp (And.intro hn hk)))
  have hsp : ∀ (m : Nat), 0 < m → m ≤ max cells.flatten.length 1 → Calls Try.prog 27 #[.pointer (some ⟨b, o, none⟩), .int .i64 (m : Nat)] w fun e w' => e = .returned (.tuple #[]) ∧ Spares (fun k => k = b) w w' ∧ ∃ S', RowIn w' b o S' (spreadC m cells.flatten) t f ∧ ∀ k, S' k → w.heap.size ≤ k := fun m h1 h2 =>
    spread_any m w h ⟨h1, by omega⟩ ⟨by omega, by omega⟩ hk (RowOk.spread (r := r) hp.uniqF hp.rowF h1 h2).2
  have HSP := Lib.hid hsp
  obtain ⟨N, hN⟩ : ∃ N, cells.length = N := ⟨_, rfl⟩
  obtain ⟨K, hK⟩ : ∃ K, cells.flatten.length = K := ⟨_, rfl⟩
  rw [hN] at c0 hcl hp0
  rw [hK] at c1 hn
  have HNK := Lib.hid (And.intro hN hK)
  obtain ⟨x1, x2⟩ := wrapK (x := 4 * (N : Int)) (by omega) (by omega)
  obtain ⟨y1, y2⟩ := wrapK (x := 2 * (N : Int)) (by omega) (by omega)
  clear h hp hk hra hsp hN hK
  by_cases q1 : 4 * N < K
  · obtain ⟨m, hm⟩ : ∃ m, 2 * N = m := ⟨_, rfl⟩
    have hcall := HSP.out m (by omega) (by have := HNK.out; omega)
    have e2 : 2 * (N : Int) = (m : Int) := by omega
    have HE := Lib.hid (show fitC cells = spreadC m cells.flatten from by unfold fitC; rw [HNK.out.1, HNK.out.2, if_pos q1, hm])
    have HC := Lib.hid hcall
    have q1i : 4 * (N : Int) < (K : Int) := by omega
    rw [e2] at y1 y2
    have HQ := Lib.hid q1
    clear hcall hm q1
    go_enter Try.func42, Try.ntmps42
    go_wp2_with (fail)
    refine HC.out.mono ?_
    rintro e w2 ⟨rfl, hs, hR⟩
    have HR := Lib.hid (And.intro hs hR)
    clear hs hR
    go_wp2_with (fail)
    refine bodyPost_end (results_none rfl _ _ _) rfl ?_
    obtain ⟨hs, S', h1, h2⟩ := HR.out
    refine ⟨rfl, ⟨S', by rw [HE.out]; exact h1, fun k hk => .inr (h2 k hk)⟩, hs.wider fun k _ e => .inr e⟩
  · by_cases q2 : K < N ∧ 1 < N
    · obtain ⟨m, hm⟩ : ∃ m, N / 2 = m := ⟨_, rfl⟩
      have hcall := HSP.out m (by omega) (by have := HNK.out; have := HX.out.2.1.small; omega)
      have e2 : (N : Int).tdiv 2 = (m : Int) := by rw [Int.tdiv_eq_ediv_of_nonneg (by omega)]; omega
      have e3 : (N : Int) / 2 = (m : Int) := by omega
      have HE := Lib.hid (show fitC cells = spreadC m cells.flatten from by unfold fitC; rw [HNK.out.1, HNK.out.2, if_neg q1, if_pos q2, hm])
      have HC := Lib.hid hcall
      have q1i : ¬ 4 * (N : Int) < (K : Int) := by omega
      have q2i : (K : Int) < (N : Int) := by omega
      have q3i : (1 : Int) < (N : Int) := by omega
      obtain ⟨z1, z2⟩ := wrapK (x := (m : Int)) (by omega) (by omega)
      have q2n := q2.1
      have q3n := q2.2
      clear hcall hm q2
      go_enter Try.func42, Try.ntmps42
      go_wp2_with (fail)
      refine HC.out.mono ?_
      rintro e w2 ⟨rfl, hs, hR⟩
      have HR := Lib.hid (And.intro hs hR)
      clear hs hR
      go_wp2_with (fail)
      refine bodyPost_end (results_none rfl _ _ _) rfl ?_
      obtain ⟨hs, S', h1, h2⟩ := HR.out
      refine ⟨rfl, ⟨S', by rw [HE.out]; exact h1, fun k hk => .inr (h2 k hk)⟩, hs.wider fun k _ e => .inr e⟩
    · have HE := Lib.hid (show fitC cells = cells from by unfold fitC; rw [HNK.out.1, HNK.out.2, if_neg q1, if_neg q2])
      have q1i : ¬ 4 * (N : Int) < (K : Int) := by omega
      by_cases q3 : K < N
      · have q4 : ¬ 1 < N := fun h => q2 ⟨q3, h⟩
        clear q2
        go_enter Try.func42, Try.ntmps42
        go_wp2_with (fail)
        refine bodyPost_end (results_none rfl _ _ _) rfl ?_
        rw [HE.out]
        exact ⟨rfl, HX.out.1.keep (Grows.refl _)⟩
      · clear q2
        go_enter Try.func42, Try.ntmps42
        go_wp2_with (fail)
        refine bodyPost_end (results_none rfl _ _ _) rfl ?_
        rw [HE.out]
        exact ⟨rfl, HX.out.1.keep (Grows.refl _)⟩
end Go.Proofs.Ytadgbobemmfjoaa
