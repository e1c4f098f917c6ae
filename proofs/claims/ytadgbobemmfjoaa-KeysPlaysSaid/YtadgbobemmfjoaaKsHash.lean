/-
  keys.hashOf.
-/
import Derived.Test.YtadgbobemmfjoaaKsPlain
import Derived.Test.YtadgbobemmfjoaaRsG
import Derived.Test.YtadgbobemmfjoaaRange
namespace Go.Proofs.Ytadgbobemmfjoaa
open Go.RowKit
set_option linter.unusedVariables false
set_option linter.unusedSimpArgs false

theorem xor_u32 {x y : Nat} (hx : x < 4294967296) (hy : y < 4294967296) : bits BinOp.xor IntKind.u32 (x : Int) (y : Int) = ((x ^^^ y : Nat) : Int) := u32_xor_nat x y hx hy
theorem wrap_u32 (x : Nat) : IntKind.u32.wrap (x : Int) = ((x % 4294967296 : Nat) : Int) := by
  have : IntKind.u32.signed = false := rfl
  have h2 : IntKind.u32.bits = 32 := rfl
  unfold IntKind.wrap
  simp [this, h2]
theorem hash_any (key : List UInt8) (hk : key.length ≤ 1000000000) (w : World) : Calls Try.prog 39 #[.string ⟨key.toArray⟩] w fun e w' => e = .returned (.int .u32 (hashP key : Nat)) ∧ w' = w := by
  go_enter Try.func39, Try.ntmps39
  go_wp2
  go_loop [3, 7] (fun s i => ∃ k : Nat, k ≤ key.length ∧ i = .int .i64 k ∧ s = .int .u32 (hfold (key.take k) : Nat)) (fun _ i => key.length - (intOf i).toNat)
  case atStart => exact ⟨0, by omega, rfl, rfl⟩
  case round =>
    obtain ⟨k, hk1, rfl, rfl⟩ := hrel
    by_cases hlt : k < key.length
    · have hb := hfold_lt (key.take k)
      have hs : hfold (key.take (k + 1)) = hstep (hfold (key.take k)) (key.getD k 0) := by
        rw [List.take_add_one, List.getElem?_eq_getElem hlt, ← hfold_snoc]
        simp [hlt]
      go_wp2
      go_round
      case rel =>
        have hl2 : k < (⟨key.toArray⟩ : ByteArray).size := by simpa [ByteArray.size] using hlt
        have hbyte : (⟨key.toArray⟩ : ByteArray)[k]'hl2 = key.getD k 0 := by
          show key.toArray[k]'(by simpa using hlt) = _
          simp [hlt]
        refine ⟨k + 1, by omega, by go_num, ?_⟩
        rw [hs]
        obtain ⟨x, hx⟩ : ∃ x, hfold (key.take k) = x := ⟨_, rfl⟩
        rw [hx] at hb ⊢
        rw [hbyte]
        obtain ⟨b, hb2⟩ : ∃ b, key.getD k 0 = b := ⟨_, rfl⟩
        rw [hb2]
        have hb3 := b.toNat_lt
        have e1 : ((b.toNat : Nat) : Int) % 4294967296 = ((b.toNat : Nat) : Int) := by omega
        rw [e1, xor_u32 hb (by omega)]
        unfold hstep
        simp
      case measure => simp [intOf]; omega
    · go_wp2
      go_ret
      obtain rfl : k = key.length := by omega
      refine ⟨?_, rfl⟩
      rw [List.take_length]
      have hb := hfold_lt key
      obtain ⟨x, hx⟩ : ∃ x, hfold key = x := ⟨_, rfl⟩
      have hP : hashP key = hmix x ^^^ (hmix x >>> 13) := by rw [← hx]; rfl
      rw [hx] at hb ⊢
      have e1 : (x : Int) / (65536 : Int) = ((x >>> 16 : Nat) : Int) := by rw [Nat.shiftRight_eq_div_pow]; simp
      have e2 : ((hmix x : Nat) : Int) / (8192 : Int) = ((hmix x >>> 13 : Nat) : Int) := by rw [Nat.shiftRight_eq_div_pow]; simp
      have h1 : x >>> 16 < 4294967296 := Nat.lt_of_le_of_lt (Nat.shiftRight_le _ _) hb
      have h2 := hmix_lt x
      have h3 : hmix x >>> 13 < 4294967296 := Nat.lt_of_le_of_lt (Nat.shiftRight_le _ _) h2
      have e3 : ((x ^^^ x >>> 16 : Nat) : Int) * 2246822507 % 4294967296 = ((hmix x : Nat) : Int) := by unfold hmix; simp
      rw [hP]
      show Ending.returned (.int .u32 _) = _
      rw [e1, xor_u32 hb h1, e3, e2, xor_u32 h2 h3]
end Go.Proofs.Ytadgbobemmfjoaa
