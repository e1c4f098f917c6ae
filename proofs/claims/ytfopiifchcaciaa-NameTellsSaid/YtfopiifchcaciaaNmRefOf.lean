/-
  The walk of the answer's Of.
-/
import Derived.Test.YtfopiifchcaciaaNmOf
namespace Go.Proofs.Ytfopiifchcaciaa
open Go.RowKit
set_option linter.unusedSimpArgs false
set_option linter.unusedVariables false

theorem str_add (a b : List UInt8) : (⟨a.toArray⟩ : ByteArray) ++ (⟨b.toArray⟩ : ByteArray) = ⟨(a ++ b).toArray⟩ := by
  apply ByteArray.ext
  rw [ByteArray.data_append]
  simp

set_option maxRecDepth 100000 in
set_option maxHeartbeats 4000000 in
theorem ref_of_num (k : Int) (c : UInt8) (hk : k = 1 ∧ c = 115 ∨ k = 2 ∧ c = 104) (n : Nat) (hn : n ≤ 99999999) (w : World) :
    Calls Try.prog 13 #[.int .i64 k, .int .i64 (n : Int)] w fun e w' => e = .returned (.string ⟨(c :: digs n 8 : List UInt8).toArray⟩) ∧ Grows w w' := by
  have h1 : ¬ (n : Int) < 0 := by omega
  have h2 : ¬ (99999999 : Int) < (n : Int) := by omega
  have h3 : ¬ k < 1 := by omega
  have h4 : ¬ (4 : Int) < k := by omega
  have h5 : ¬ (2 : Int) < k := by omega
  have h6 : (k == 3) = false := by rw [beq_eq_false_iff_ne]; omega
  have h7 : (k == 4) = false := by rw [beq_eq_false_iff_ne]; omega
  have HK := Lib.hid hk
  clear hk
  go_enter Try.func13, Try.ntmps13
  go_wp2_with (fail)
  go_loopw [1, 5, 6] (fun a s i wr => ∃ (j : Nat), j ≤ 8 ∧ i = .int .i64 (j : Int) ∧ a = .int .i64 ((n / 10 ^ j : Nat) : Int) ∧ s = .string ⟨(digs n j).toArray⟩ ∧ Hid (Grows w wr)) (fun _ _ i _ => 8 - (intOf i).toNat)
  case atStart => exact ⟨0, by omega, rfl, by simp, rfl, Lib.hid (Grows.refl _)⟩
  case round =>
    obtain ⟨j, hj, rfl, rfl, rfl, HB⟩ := hrel
    by_cases hlt : j < 8
    · have hlt' : (j : Int) < 8 := by omega
      obtain ⟨X, hX⟩ : ∃ X : Nat, n / 10 ^ j = X := ⟨_, rfl⟩
      have hX2 : n / 10 ^ (j + 1) = X / 10 := by rw [Nat.pow_succ, ← Nat.div_div_eq_div_mul, hX]
      have hXl : X ≤ 99999999 := by rw [← hX]; exact Nat.le_trans (Nat.div_le_self _ _) hn
      have hd : ((UInt8.ofNat (48 + X % 10)).toNat : Int) = 48 + (X : Int) % 10 := by
        rw [dig_nat _ (Nat.mod_lt _ (by omega))]
        omega
      have hds : digs n (j + 1) = UInt8.ofNat (48 + X % 10) :: digs n j := by rw [digs, hX]
      have hm1 : IntKind.i64.wrap ((X : Int).tmod 10) = (X : Int) % 10 := by rw [Int.tmod_eq_emod_of_nonneg (by omega), IntWalk.i64_in _ ⟨by omega, by omega⟩]
      obtain ⟨b, hb⟩ : ∃ b, UInt8.ofNat (48 + X % 10) = b := ⟨_, rfl⟩
      rw [hb] at hd hds
      have hm := Whole.made wr 5 #[.int .u8 (48 + (X : Int) % 10)]
      have hs := run_string (hm.sl [b] (by show _ = [byteV b].toArray; rw [byteV, hd]) (n := 1) rfl)
      have HX := Lib.hid hX
      have HX2 := Lib.hid hX2
      have HDS := Lib.hid hds
      rw [hX]
      obtain ⟨D, hD⟩ : ∃ D, digs n j = D := ⟨_, rfl⟩
      have hDl : ¬ 9223372036854775807 < 1 + D.length := by rw [← hD, digs_length]; omega
      rw [hD] at HDS ⊢
      have HAD := Lib.hid (str_add [b] D)
      clear hX hX2 hds hd hm hb hD
      go_wp2_with (fail)
      refine ⟨⟨j + 1, by omega, rfl, by rw [HX2.out]; rfl, by rw [HDS.out]; exact congrArg Value.string HAD.out, Lib.hid (Grows.trans HB.out (grows_alloc _ _))⟩, by simp [intOf]; omega⟩
    · obtain rfl : j = 8 := by omega
      have hl : (⟨(digs n 8).toArray⟩ : ByteArray).size = 8 := by
        have := digs_length n 8
        simpa [ByteArray.size] using this
      have ha1 := str_add [115] (digs n 8)
      have ha2 := str_add [104] (digs n 8)
      have hl2 : ¬ 9223372036854775807 < 1 + (digs n 8).length := by rw [digs_length]; omega
      obtain ⟨D, hD⟩ : ∃ D, digs n 8 = D := ⟨_, rfl⟩
      have HD := Lib.hid hD
      rw [hD] at hl ha1 ha2 hl2 ⊢
      clear hD
      have HA1 := Lib.hid ha1
      have HA2 := Lib.hid ha2
      clear ha1 ha2
      rcases HK.out with ⟨rfl, rfl⟩ | ⟨rfl, rfl⟩
      · go_wp2_with (fail)
        go_ret
        exact ⟨by rw [HD.out]; exact congrArg (fun s => Ending.returned (.string s)) HA1.out, HB.out⟩
      · go_wp2_with (fail)
        go_ret
        exact ⟨by rw [HD.out]; exact congrArg (fun s => Ending.returned (.string s)) HA2.out, HB.out⟩

theorem ref_of_any (k n : Int) (w : World) :
    Calls Try.prog 13 #[.int .i64 k, .int .i64 n] w fun e w' => e = .returned (.string ⟨(ofP k n).toArray⟩) ∧ Grows w w' := by
  by_cases h1 : n < 0
  · have e : ofP k n = [] := by unfold ofP; rw [if_pos (.inl h1)]
    rw [e]
    go_enter Try.func13, Try.ntmps13
    go_wp2_with (fail)
    go_ret
    exact ⟨rfl, Grows.refl _⟩
  by_cases h2 : 99999999 < n
  · have e : ofP k n = [] := by unfold ofP; rw [if_pos (.inr h2)]
    rw [e]
    go_enter Try.func13, Try.ntmps13
    go_wp2_with (fail)
    go_ret
    exact ⟨rfl, Grows.refl _⟩
  obtain ⟨m, rfl⟩ : ∃ m : Nat, n = (m : Int) := ⟨n.toNat, by omega⟩
  by_cases h3 : k < 1
  · have e : ofP k (m : Int) = [] := by unfold ofP; rw [if_neg (by omega), if_neg (by omega), if_neg (by omega), if_neg (by omega), if_neg (by omega)]
    rw [e]
    go_enter Try.func13, Try.ntmps13
    go_wp2_with (fail)
    go_ret
    exact ⟨rfl, Grows.refl _⟩
  by_cases h4 : 4 < k
  · have e : ofP k (m : Int) = [] := by unfold ofP; rw [if_neg (by omega), if_neg (by omega), if_neg (by omega), if_neg (by omega), if_neg (by omega)]
    rw [e]
    go_enter Try.func13, Try.ntmps13
    go_wp2_with (fail)
    go_ret
    exact ⟨rfl, Grows.refl _⟩
  by_cases h5 : 2 < k
  · by_cases h6 : 0 < (m : Int)
    · have e : ofP k (m : Int) = [] := by unfold ofP; rw [if_neg (by omega), if_neg (by omega), if_neg (by omega), if_neg (by omega), if_neg (by omega)]
      rw [e]
      go_enter Try.func13, Try.ntmps13
      go_wp2_with (fail)
      go_ret
      exact ⟨rfl, Grows.refl _⟩
    · obtain rfl : m = 0 := by omega
      by_cases h7 : k = 3
      · subst h7
        rw [show ofP 3 ((0 : Nat) : Int) = [109] from rfl]
        go_enter Try.func13, Try.ntmps13
        go_wp2_with (fail)
        go_ret
        exact ⟨rfl, Grows.refl _⟩
      · obtain rfl : k = 4 := by omega
        rw [show ofP 4 ((0 : Nat) : Int) = [116] from rfl]
        go_enter Try.func13, Try.ntmps13
        go_wp2_with (fail)
        go_ret
        exact ⟨rfl, Grows.refl _⟩
  by_cases h8 : k = 1
  · subst h8
    have e : ofP 1 (m : Int) = 115 :: digs m 8 := by unfold ofP; rw [if_neg (by omega), if_pos rfl, Int.toNat_natCast]
    rw [e]
    exact ref_of_num 1 115 (.inl ⟨rfl, rfl⟩) m (by omega) w
  · obtain rfl : k = 2 := by omega
    have e : ofP 2 (m : Int) = 104 :: digs m 8 := by unfold ofP; rw [if_neg (by omega), if_neg (by decide), if_pos rfl, Int.toNat_natCast]
    rw [e]
    exact ref_of_num 2 104 (.inr ⟨rfl, rfl⟩) m (by omega) w
end Go.Proofs.Ytfopiifchcaciaa
