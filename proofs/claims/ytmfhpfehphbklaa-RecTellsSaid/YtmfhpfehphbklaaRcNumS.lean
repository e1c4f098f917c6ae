/-
  The walk of rec's number (of a source).
-/
import Derived.Test.YtmfhpfehphbklaaRcTake
import Derived.Laws.BitsAllLaws
namespace Go.Proofs.Ytmfhpfehphbklaa
open Go.RowKit
set_option linter.unusedSimpArgs false

theorem valB_next (bs : List UInt8) (j : Nat) (h : j < bs.length) : valB (bs.take (j + 1)) = 256 * valB (bs.take j) + ((bs.getD j 0).toNat : Int) := by
  rw [List.take_succ_eq_append_getElem h, valB_snoc]
  simp [h]
theorem i64_or_nat (a b : Nat) (ha : a < 9223372036854775808) (hb : b < 9223372036854775808) : bits .or .i64 (a : Int) (b : Int) = ((a ||| b : Nat) : Int) := by
  have hx : a ||| b < 2 ^ 63 := Nat.or_lt_two_pow (by omega) (by omega)
  show IntKind.i64.wrap ((BitVec.ofInt 64 (a : Int) ||| BitVec.ofInt 64 (b : Int)).toNat : Int) = _
  rw [BitVec.toNat_or, ofInt_u64 a (by omega), ofInt_u64 b (by omega), IntKind.wrap_i64]
  omega
theorem or_byte (v : Int) (b : Nat) (h0 : 0 ≤ v) (h1 : v < 1099511627776) (hb : b < 256) : bits BinOp.or IntKind.i64 (v * 256) (b : Int) = v * 256 + (b : Int) := by
  obtain ⟨n, rfl⟩ : ∃ n : Nat, v = (n : Int) := ⟨v.toNat, by omega⟩
  have e := i64_or_nat (n * 256) b (by omega) (by omega)
  have e2 : (n * 256 ||| b) = n * 256 + b := by
    have := Nat.two_pow_add_eq_or_of_lt (i := 8) (b := b) (by omega) n
    rw [show (2 : Nat) ^ 8 * n = n * 256 by omega] at this
    omega
  rw [e2] at e
  rw [show (n : Int) * 256 = ((n * 256 : Nat) : Int) by omega, e]
  omega
theorem valB_small (bs : List UInt8) (h : bs.length ≤ 6) : 0 ≤ valB bs ∧ valB bs < 281474976710656 := by
  have := valB_lt bs
  obtain e | e | e | e | e | e | e : bs.length = 0 ∨ bs.length = 1 ∨ bs.length = 2 ∨ bs.length = 3 ∨ bs.length = 4 ∨ bs.length = 5 ∨ bs.length = 6 := by omega
  all_goals
    rw [e] at this
    simp at this
    omega

set_option maxRecDepth 100000 in
set_option maxHeartbeats 4000000 in
theorem num_any (g : Nat) (s : Src) (k : Nat) (w : World) (h : At w g s) (hk : k ≤ 6) (hs : s.1.length ≤ 140737488351232) :
    Calls Try.prog 92 #[.pointer (some ⟨g, 0, none⟩), .int .i64 (k : Int)] w fun e w' => e = .returned (.int .i64 (numS s k).1) ∧ At w' g (numS s k).2 ∧ Turns g w w' := by
  have hlk : (takeS s k).1.length ≤ 6 := by
    unfold takeS
    split
    · simp
    · simp; omega
  unfold numS
  dsimp only
  have HT := Lib.hid (take_any g s k w h (by omega) hs)
  generalize takeS s k = r at *
  obtain ⟨bs, s'⟩ := r
  dsimp only at *
  go_enter Try.func92, Try.ntmps92
  go_wp2_with (fail)
  refine HT.out.mono ?_
  rintro e w1 ⟨A, m, c, rfl, hl, ha, ht⟩
  have hlen := Bytes.len hl.bytes
  have HL := Lib.hid hl
  have HA := Lib.hid (And.intro ha ht)
  clear hl ha ht HT h
  go_wp2_with (fail)
  go_loop [5, 12] (fun n i => ∃ j : Nat, j ≤ m ∧ i = .int .i64 (j : Nat) ∧ n = .int .i64 (valB (bs.take j))) (fun _ i => m - (intOf i).toNat)
  case atStart => exact ⟨0, by omega, rfl, rfl⟩
  case round =>
    obtain ⟨j, hj, rfl, rfl⟩ := hrel
    by_cases hlt : j < m
    · obtain ⟨ad, rfl, _, hc⟩ := HL.out.bytes.spot hlt
      have hnx := valB_next bs j (by omega)
      have hsm := valB_small (bs.take j) (by rw [List.length_take]; omega)
      have hsm2 := valB_small (bs.take (j + 1)) (by rw [List.length_take]; omega)
      have hb := (bs.getD j 0).toNat_lt
      generalize bs.getD j 0 = b at *
      generalize valB (bs.take j) = v at *
      have HX := Lib.hid hnx
      have k0 : (0 : Int) ≤ (j : Int) := by omega
      have k1 : (j : Int) < (m : Int) := by omega
      clear hnx
      go_wp2_with (fail)
      go_round
      case rel => exact ⟨j + 1, by omega, by go_num, by rw [HX.out, or_byte v _ (by omega) (by have := hsm2; rw [HX.out] at this; omega) hb]; congr 1; omega⟩
      case measure => simp [intOf]; omega
    · obtain rfl : j = m := by omega
      have e1 : bs.take j = bs := List.take_of_length_le (by omega)
      rw [e1]
      go_wp2_with (fail)
      go_ret
      exact ⟨rfl, HA.out⟩
end Go.Proofs.Ytmfhpfehphbklaa
