/-
  Are the calls that came in too many?
-/
import Derived.Test.YtadgbobemmfjoaaKsOps
namespace Go.Proofs.Ytadgbobemmfjoaa
open Go.RowKit
set_option linter.unusedVariables false
set_option linter.unusedSimpArgs false

/-- No key ahead of i is long. -/
def Shorts (os : List O13) (i : Nat) : Prop := ∀ (j : Nat) (o : O13), j < i → os[j]? = some o → o.p.key.length < 9000
structure Gr (os : List O13) (n i s : Nat) : Prop where
  low : n ≤ s
  big : s ≤ max n 18000
  short : s < 9000 → Shorts os i
set_option maxRecDepth 100000 in
set_option maxHeartbeats 4000000 in
theorem great13_any (A : Option Addr) (n c : Nat) (os : List O13) (w : World) (hx : Ops13 w A n c os) :
    Calls Try.prog 12 #[.slice A n c] w fun e w' => (e = .returned (.bool true) ∧ w' = w) ∨ (e = .returned (.bool false) ∧ n ≤ 300 ∧ Shorts os n ∧ w' = w) := by
  have HX := Lib.hid hx
  have hbig := hx.big
  have HG0 := Lib.hid (show Gr os n 0 n from ⟨Nat.le_refl _, by omega, fun _ j o hj => by omega⟩)
  clear hx
  go_enter Try.func12, Try.ntmps12
  go_wp2_with (fail)
  go_loop [3, 4] (fun vs vi => ∃ (i s : Nat), i ≤ n ∧ vi = .int .i64 (i : Int) ∧ vs = .int .i64 (s : Int) ∧ Hid (Gr os n i s)) (fun _ vi => n - (intOf vi).toNat)
  case atStart => exact ⟨0, n, Nat.zero_le _, rfl, rfl, HG0⟩
  case round =>
    obtain ⟨i, s, hi, rfl, rfl, HG⟩ := hrel
    by_cases hlt : i < n
    · have k1 : (i : Int) < (n : Int) := by omega
      by_cases hs : s < 9000
      · have hsi : (s : Int) < 9000 := by omega
        obtain ⟨ad, o, rfl, ho, hbl, hok, hcs⟩ := Ops13.at HX.out hlt
        obtain ⟨c0, c1, c2, c3, c4, c5, c6⟩ := hcs w (Grows.refl _)
        have k0 : (0 : Int) ≤ (i : Int) := by omega
        obtain ⟨m, hm⟩ : ∃ m, o.p.key.length = m := ⟨_, rfl⟩
        obtain ⟨q, hq⟩ : ∃ q, s + min m 9000 = q := ⟨_, rfl⟩
        have hqi : (s : Int) + min (m : Int) 9000 = (q : Int) := by omega
        have HN := Lib.hid (show Gr os n (i + 1) q from by
          have hg := HG.out
          have h1 := hg.low
          have h2 := hg.big
          refine ⟨by omega, by omega, fun hq2 j x hj hx => ?_⟩
          by_cases e : j < i
          · exact hg.short (by omega) j x e hx
          · obtain rfl : j = i := by omega
            rw [ho] at hx
            injection hx with hx
            subst hx
            omega)
        obtain ⟨o0, ⟨o1, o2, o3, o4, o5⟩, o6⟩ := o
        dsimp only at c0 c1 c2 c3 c4 c5 c6 hm
        have HM := Lib.hid hm
        have hqb : (q : Int) ≤ 9223372036854775807 := by have := HN.out.big; omega
        have HWQ := Lib.hid (wrapK (x := (q : Int)) (by omega) hqb)
        have hml : ((o3.length : Nat) : Int) = (m : Int) := by omega
        obtain ⟨wq1, wq2⟩ := HWQ.out
        clear ho hbl hok hcs hq hm
        go_wp2_with (fail)
        go_round
        case rel => exact ⟨i + 1, q, by omega, by first | rfl | go_num, by first | rfl | (rw [← HM.out]; simp) | skip, HN⟩
        case measure => simp [intOf]; omega
      · have hsi : ¬ (s : Int) < 9000 := by omega
        have hsg : (9000 : Int) ≤ (s : Int) := by omega
        go_wp2_with (fail)
        go_ret
        exact .inl ⟨rfl, rfl⟩
    · obtain rfl : i = n := by omega
      have k1 : ¬ (i : Int) < (i : Int) := by omega
      by_cases hs : s < 9000
      · have hsi : (s : Int) < 9000 := by omega
        have hsg : ¬ (9000 : Int) ≤ (s : Int) := by omega
        by_cases hn : 300 < i
        · have hni : (300 : Int) < (i : Int) := by omega
          go_wp2_with (fail)
          go_ret
          exact .inl ⟨rfl, rfl⟩
        · have hni : ¬ (300 : Int) < (i : Int) := by omega
          have HS := Lib.hid hs
          have HNN := Lib.hid hn
          go_wp2_with (fail)
          go_ret
          exact .inr ⟨rfl, by have := HNN.out; omega, HG.out.short HS.out, rfl⟩
      · have hsi : ¬ (s : Int) < 9000 := by omega
        have hsg : (9000 : Int) ≤ (s : Int) := by omega
        go_wp2_with (fail)
        go_ret
        exact .inl ⟨rfl, rfl⟩
end Go.Proofs.Ytadgbobemmfjoaa
