/-
  What turning bits comes to, plainly.
-/
import Derived.Test.YtmfhpfehphbklaaDkFlip
import Derived.Test.YtmfhpfehphbklaaDkKp
namespace Go.Proofs.Ytmfhpfehphbklaa
open Go.RowKit
set_option linter.unusedVariables false
set_option linter.unusedSimpArgs false
theorem turnAt_lt (t q i : Nat) : turnAt t q i < 256 := by unfold turnAt; split <;> omega
theorem xor_twice (b : UInt8) (z : Nat) (hz : z < 256) : UInt8.ofNat ((UInt8.ofNat (b.toNat ^^^ z)).toNat ^^^ z) = b := by
  have hb := b.toNat_lt
  have hx : b.toNat ^^^ z < 2 ^ 8 := Nat.xor_lt_two_pow (by omega) (by omega)
  rw [UInt8.toNat_ofNat', Nat.mod_eq_of_lt hx, Nat.xor_assoc, Nat.xor_self, Nat.xor_zero, ofNat_toNat]
theorem flipT_twice (t q : Nat) (bs : List UInt8) : flipT t q (flipT t q bs) = bs := by
  refine List.ext_getElem (by rw [flipT_length, flipT_length]) fun i h1 h2 => ?_
  simp only [flipT, List.getElem_mapIdx]
  exact xor_twice _ _ (turnAt_lt _ _ _)
theorem flipT_get (t q : Nat) (bs : List UInt8) {i : Nat} (h : i < bs.length) : (flipT t q bs).getD i 0 = UInt8.ofNat ((bs.getD i 0).toNat ^^^ turnAt t q i) := by
  rw [List.getD_eq_getElem?_getD, List.getD_eq_getElem?_getD, List.getElem?_eq_getElem (by rw [flipT_length]; exact h), List.getElem?_eq_getElem h]
  simp only [flipT, List.getElem_mapIdx, Option.getD_some]
theorem turn_far {z k i : Nat} (hz : z < 4294967296) (h : 8 * i + 7 < k ∨ k + 31 < 8 * i) : turnAt (z * 2 ^ (k % 8)) (k / 8) i = 0 := by
  unfold turnAt
  split
  · rfl
  · rename_i hi
    rcases h with h | h
    · omega
    · have h1 : z * 2 ^ (k % 8) < 2 ^ (32 + k % 8) := by
        rw [Nat.pow_add]
        exact Nat.mul_lt_mul_of_pos_right (by omega) (Nat.pow_pos (by omega))
      have h2 : 2 ^ (32 + k % 8) ≤ 256 ^ (i - k / 8) := by
        rw [show (256 : Nat) = 2 ^ 8 by rfl, ← Nat.pow_mul]
        exact Nat.pow_le_pow_right (by omega) (by omega)
      rw [Nat.div_eq_of_lt (by omega), Nat.zero_mod]
theorem flip_near {bs : List UInt8} {z k i : Nat} (hz : z < 4294967296) (hi : i < bs.length) (h : (flipT (z * 2 ^ (k % 8)) (k / 8) bs).getD i 0 ≠ bs.getD i 0) : ¬ 8 * i + 7 < k ∧ ¬ k + 31 < 8 * i := by
  constructor
  · intro h1
    apply h
    rw [flipT_get _ _ _ hi, turn_far hz (.inl h1), Nat.xor_zero, ofNat_toNat]
  · intro h1
    apply h
    rw [flipT_get _ _ _ hi, turn_far hz (.inr h1), Nat.xor_zero, ofNat_toNat]
theorem odd_turn {z r : Nat} (hz : z % 2 = 1) (hr : r < 8) : z * 2 ^ r % 256 ≠ 0 := by
  match r, hr with
  | 0, _ => omega
  | 1, _ => omega
  | 2, _ => omega
  | 3, _ => omega
  | 4, _ => omega
  | 5, _ => omega
  | 6, _ => omega
  | 7, _ => omega
theorem flip_odd {bs : List UInt8} {z k : Nat} (hz : z % 2 = 1) (hk : k < 8 * bs.length) : flipT (z * 2 ^ (k % 8)) (k / 8) bs ≠ bs := by
  intro e
  have hq : k / 8 < bs.length := by omega
  have h1 := flipT_get (z * 2 ^ (k % 8)) (k / 8) bs hq
  rw [e] at h1
  have h2 : turnAt (z * 2 ^ (k % 8)) (k / 8) (k / 8) = z * 2 ^ (k % 8) % 256 := by
    unfold turnAt
    rw [if_neg (by omega), Nat.sub_self, Nat.pow_zero, Nat.div_one]
  have h3 := odd_turn hz (show k % 8 < 8 by omega)
  rw [h2] at h1
  generalize z * 2 ^ (k % 8) % 256 = y at h1 h3 h2
  have hy : y < 256 := by rw [← h2]; exact turnAt_lt _ _ _
  generalize bs.getD (k / 8) 0 = b at h1
  have h4 := congrArg UInt8.toNat h1
  have hb := b.toNat_lt
  have hx : b.toNat ^^^ y < 2 ^ 8 := Nat.xor_lt_two_pow (by omega) (by omega)
  rw [UInt8.toNat_ofNat', Nat.mod_eq_of_lt hx] at h4
  have h5 : b.toNat ^^^ (b.toNat ^^^ y) = 0 := by rw [← h4, Nat.xor_self]
  rw [← Nat.xor_assoc, Nat.xor_self, Nat.zero_xor] at h5
  exact h3 h5

namespace Fp
open Kp
variable (b : List UInt8) (k z : Nat)
def X : List UInt8 := flipT (z * 2 ^ (k % 8)) (k / 8) b
def V3 : Dk := (Kp.V2 b).setFile 0 ⟨X b k z, ((Kp.V2 b).files 0).kept⟩
def V4 : Dk := (V3 b k z).setFile 0 ⟨b, ((V3 b k z).files 0).kept⟩
theorem V2x : Dir.find [120] (Kp.V2 b).names = some 0 := by rw [Kp.V2n, Kp.V1x]
theorem e3 (hk : k < 8 * b.length) : (Kp.V2 b).flip [120] k z = (V3 b k z, true) := by
  unfold Dk.flip
  rw [V2x]
  dsimp only
  rw [Kp.V2f, if_neg (by omega)]
  rfl
theorem V3n : (V3 b k z).names = Kp.V1.names := by show (Kp.V2 b).names = _; exact Kp.V2n b
theorem V3x : Dir.find [120] (V3 b k z).names = some 0 := by rw [V3n, Kp.V1x]
theorem V3f : ((V3 b k z).files 0).bytes = X b k z := rfl
theorem V3w : Well (V3 b k z) := ⟨(Kp.V2w b).down, (Kp.V2w b).cut, (Kp.V2w b).fail⟩
theorem X_length : (X b k z).length = b.length := flipT_length _ _ _
theorem r3 : (V3 b k z).read [120] 0 b.length = (some (X b k z), 0) := by
  have h := (V3w b k z).read (V3x b k z) (x := 0) (k := b.length) (by rw [V3f, X_length]; omega)
  rw [V3f, List.drop_zero, List.take_of_length_le (by rw [X_length]; exact Nat.le_refl _)] at h
  exact h
theorem e4 (hk : k < 8 * b.length) : (V3 b k z).flip [120] k z = (V4 b k z, true) := by
  unfold Dk.flip
  rw [V3x]
  dsimp only
  rw [V3f, X_length, if_neg (by omega)]
  have h : flipT (z * 2 ^ ((k : Int).toNat % 8)) ((k : Int).toNat / 8) (X b k z) = b := by
    rw [Int.toNat_natCast]
    exact flipT_twice _ _ _
  rw [h]
  rfl
theorem V4n : (V4 b k z).names = Kp.V1.names := V3n b k z
theorem V4x : Dir.find [120] (V4 b k z).names = some 0 := by rw [V4n, Kp.V1x]
theorem V4f : ((V4 b k z).files 0).bytes = b := rfl
theorem V4w : Well (V4 b k z) := ⟨(V3w b k z).down, (V3w b k z).cut, (V3w b k z).fail⟩
theorem r4 : (V4 b k z).read [120] 0 b.length = (some b, 0) := by
  have h := (V4w b k z).read (V4x b k z) (x := 0) (k := b.length) (by rw [V4f]; omega)
  rw [V4f, List.drop_zero, List.take_of_length_le (Nat.le_refl _)] at h
  exact h
theorem e5 : (V4 b k z).flip [120] ((8 * b.length : Nat) : Int) 1 = (V4 b k z, false) := by
  unfold Dk.flip
  rw [V4x]
  dsimp only
  rw [V4f, if_pos (.inr (by omega))]
theorem V1z : Dir.find [122] Kp.V1.names = none := by rw [Kp.V1n]; rfl
theorem e6 : (V4 b k z).flip [122] 0 1 = (V4 b k z, false) := by
  unfold Dk.flip
  rw [V4n, V1z]
theorem V2k (h : b.length ≤ 9000) : DkOk 9001 (Kp.V2 b) := (Kp.V2ok b [] (by simpa using h)).mono (by omega)
theorem V3k (h : b.length ≤ 9000) (hk : k < 8 * b.length) : DkOk 9001 (V3 b k z) := by
  have := (V2k b h).flip [120] k z
  rw [e3 b k z hk] at this
  exact this
theorem V4k (h : b.length ≤ 9000) (hk : k < 8 * b.length) : DkOk 9001 (V4 b k z) := by
  have := (V3k b k z h hk).flip [120] k z
  rw [e4 b k z hk] at this
  exact this
end Fp
end Go.Proofs.Ytmfhpfehphbklaa
