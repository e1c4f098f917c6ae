/-
  great: is it too much?
-/
import Derived.Test.YtnnkioekjobbmaaFdLls
import Derived.LoopTactic
namespace Go.Proofs.Ytnnkioekjobbmaa
open Go.RowKit
set_option linter.unusedVariables false
set_option linter.unusedSimpArgs false

/-- What great answers: if it isn't too much, that is small. -/
def GreatTo (N : Nat) (ls : List (List Ht)) (w : World) (e : Ending) (w' : World) : Prop := ∃ g, e = .returned (.bool g) ∧ (g = false → N ≤ 100 ∧ manyL ls ≤ 9000) ∧ Grows w w'
theorem great_step (n kl : Nat) (h : n < 9000) : ∃ d, n + 1 + (if 9000 < kl then 9000 else kl) = d ∧ n < d ∧ d ≤ 18001 := by
  refine ⟨_, rfl, ?_⟩
  split <;> omega
set_option maxRecDepth 100000 in
set_option maxHeartbeats 8000000 in
theorem great_any (A : Option Addr) (N c : Nat) (sl : List Sl3) (ls : List (List Ht)) (w : World) (hx : Lls w A N c sl ls) (hN : N ≤ 6000000000000) (hm : ∀ l ∈ ls, l.length ≤ 4000000000000) :
    Calls Try.prog 9 #[.slice A N c] w (GreatTo N ls w) := by
  have HX := Lib.hid (And.intro hx hm)
  have HLN := Lib.hid hx.len
  clear hx hm
  go_enter Try.func9, Try.ntmps9
  go_wp2_with (fail)
  go_loopw [3, 4, 5] (fun vn vi _ wr => ∃ (n i : Nat), i ≤ N ∧ n ≤ 6000000000000 ∧ vn = .int .i64 (n : Int) ∧ vi = .int .i64 (i : Int) ∧ Hid (9000 ≤ n ∨ N + manyL (ls.take i) ≤ n) ∧ Hid (Grows w wr)) (fun _ vi _ _ => N - (intOf vi).toNat)
  case atStart => exact ⟨N, 0, Nat.zero_le _, by omega, rfl, rfl, Lib.hid (.inr (by simp [manyL])), Lib.hid (Grows.refl _)⟩
  case round =>
    obtain ⟨n, i, hi, hn, rfl, rfl, HM, HG⟩ := hrel
    by_cases hgo : i < N ∧ n < 9000
    · obtain ⟨hlt, hn9⟩ := hgo
      obtain ⟨ad, B, m, q, li, rfl, hli, hts, hbl, hcell⟩ := HX.out.1.at hlt
      have hml : m ≤ 4000000000000 := by have := hts.len; have := HX.out.2 li (List.mem_of_getElem? hli); omega
      have k0 : (0 : Int) ≤ (i : Int) := by omega
      have k1 : (i : Int) < (N : Int) := by omega
      have k2 : (n : Int) < 9000 := by omega
      have HC := Lib.hid (And.intro hts (And.intro hli hcell))
      clear hts hli hcell hbl
      have HM0 := Lib.hid (show N + manyL (ls.take i) ≤ n from by rcases HM.out with h | h; omega; exact h)
      go_wp2_with (fail)
      clear hn9 k2
      go_loopw [3, 5] (fun vn vk wr => ∃ (n k : Nat), k ≤ m ∧ n ≤ 6000000000000 ∧ vn = .int .i64 (n : Int) ∧ vk = .int .i64 (k : Int) ∧ Hid (9000 ≤ n ∨ N + manyL (ls.take i) + k ≤ n) ∧ Hid (Grows w wr)) (fun _ vk _ => m - (intOf vk).toNat)
      case atStart => exact ⟨n, 0, Nat.zero_le _, hn, rfl, rfl, Lib.hid (.inr HM0.out), HG⟩
      case round =>
        clear HM0 HM HG
        clear hn
        obtain ⟨n, k, hk, hn, rfl, rfl, HM, HG⟩ := hrel
        have c0 := HC.out.2.2 wr HG.out
        by_cases hgo : k < m ∧ n < 9000
        · obtain ⟨hltk, hn9⟩ := hgo
          obtain ⟨bd, ⟨q0, q1, q2, q3⟩, rfl, hxk, _, hxc⟩ := HC.out.1.at hltk
          obtain ⟨c1, c2, c3, c4⟩ := hxc wr HG.out
          dsimp only at c1 c2 c3 c4
          have k2 : (0 : Int) ≤ (k : Int) := by omega
          have k3 : (k : Int) < (m : Int) := by omega
          have k4 : (n : Int) < 9000 := by omega
          obtain ⟨kl, hkl⟩ : ∃ k, q1.length = k := ⟨_, rfl⟩
          have hlk : (⟨q1.toArray⟩ : ByteArray).size = kl := by rw [← hkl]; rfl
          obtain ⟨d, hd, hd1, hd2⟩ := great_step n kl hn9
          have HD := Lib.hid (show 9000 ≤ d ∨ N + manyL (ls.take i) + (k + 1) ≤ d from by rcases HM.out with h | h; (left; omega); (right; omega))
          clear hxk hxc c1 c3 c4 hkl
          by_cases hbig : 9000 < kl
          · rw [if_pos hbig] at hd
            have e1 : (n : Int) + 1 + 9000 = (d : Int) := by omega
            have k5 : (9000 : Int) < (kl : Int) := by omega
            have hd5 : d ≤ 6000000000000 := by omega
            have hk1 : k + 1 ≤ m := by omega
            have b1 : (-9223372036854775808 : Int) ≤ (n : Int) + 1 ∧ (n : Int) + 1 ≤ 9223372036854775807 := by omega
            have b2 : (-9223372036854775808 : Int) ≤ (d : Int) ∧ (d : Int) ≤ 9223372036854775807 := by omega
            obtain ⟨e2a, e2b⟩ := wrapI b1.1 b1.2
            obtain ⟨e3a, e3b⟩ := wrapI b2.1 b2.2
            clear hd hd1 hd2 b1 b2
            go_wp2_with (fail)
            go_roundw
            case rel => exact ⟨d, k + 1, hk1, hd5, by first | rfl | go_num, by first | rfl | go_num, HD, HG⟩
            case measure => simp [intOf]; omega
          · rw [if_neg hbig] at hd
            have e1 : (n : Int) + 1 + (kl : Int) = (d : Int) := by omega
            have k5 : ¬ ((9000 : Int) < (kl : Int)) := by omega
            have hd5 : d ≤ 6000000000000 := by omega
            have hk1 : k + 1 ≤ m := by omega
            have b1 : (-9223372036854775808 : Int) ≤ (n : Int) + 1 ∧ (n : Int) + 1 ≤ 9223372036854775807 := by omega
            have b2 : (-9223372036854775808 : Int) ≤ (d : Int) ∧ (d : Int) ≤ 9223372036854775807 := by omega
            obtain ⟨e2a, e2b⟩ := wrapI b1.1 b1.2
            obtain ⟨e3a, e3b⟩ := wrapI b2.1 b2.2
            clear hd hd1 hd2 b1 b2
            go_wp2_with (fail)
            go_roundw
            case rel => exact ⟨d, k + 1, hk1, hd5, by first | rfl | go_num, by first | rfl | go_num, HD, HG⟩
            case measure => simp [intOf]; omega
        · have HE := Lib.hid (show 9000 ≤ n ∨ N + manyL (ls.take (i + 1)) ≤ n from by
            rw [manyL_take HC.out.2.1]
            have := HC.out.1.len
            rcases HM.out with h | h
            · exact .inl h
            · by_cases h9 : n < 9000
              · right; omega
              · left; omega)
          by_cases hkm : k < m
          · have h9 : ¬ ((n : Int) < 9000) := by omega
            clear hgo
            go_wp2_with (fail)
            go_roundw
            case rel => exact ⟨n, i + 1, by omega, hn, rfl, by first | rfl | go_num, HE, HG⟩
            case measure => simp [intOf]; omega
          · clear hgo
            go_wp2_with (fail)
            go_roundw
            case rel => exact ⟨n, i + 1, by omega, hn, rfl, by first | rfl | go_num, HE, HG⟩
            case measure => simp [intOf]; omega
    · have HE := Lib.hid (show n < 9000 → N + manyL ls ≤ n from fun h9 => by
        obtain rfl : N = i := by omega
        rcases HM.out with h | h
        · omega
        · rwa [List.take_of_length_le (by have := HLN.out; omega)] at h)
      by_cases hiN : i < N
      · have h9 : ¬ ((n : Int) < 9000) := by omega
        have h9b : (9000 : Int) ≤ (n : Int) := by omega
        clear hgo
        go_wp2_with (fail)
        go_ret
        exact ⟨true, rfl, fun h => (by cases h), HG.out⟩
      · clear hgo
        by_cases h9 : 9000 ≤ n
        · have h9b : (9000 : Int) ≤ (n : Int) := by omega
          go_wp2_with (fail)
          go_ret
          exact ⟨true, rfl, fun h => (by cases h), HG.out⟩
        · have h9b : ¬ ((9000 : Int) ≤ (n : Int)) := by omega
          by_cases h100 : 100 < N
          · have h100b : (100 : Int) < (N : Int) := by omega
            go_wp2_with (fail)
            go_ret
            exact ⟨true, rfl, fun h => (by cases h), HG.out⟩
          · have h100b : ¬ ((100 : Int) < (N : Int)) := by omega
            go_wp2_with (fail)
            go_ret
            exact ⟨false, rfl, fun _ => ⟨by omega, by have := HE.out (by omega); omega⟩, HG.out⟩
end Go.Proofs.Ytnnkioekjobbmaa
