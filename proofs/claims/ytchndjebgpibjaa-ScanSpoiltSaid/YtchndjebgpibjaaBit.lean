/-
  The walk of the answer's sum that is told bit by bit.
-/
import Derived.Test.YtchndjebgpibjaaOn
import Derived.Test.YtchndjebgpibjaaBurst
namespace Go.Proofs.Ytchndjebgpibjaa
open Go.RowKit

theorem rem_true (m : Nat) (h : m % 2 = 1) : ((m : Int) % 2 == 1) = true := by
  rw [show ((m : Int) % 2) = ((m % 2 : Nat) : Int) by omega, h]; rfl
theorem rem_false (m : Nat) (h : ¬ m % 2 = 1) : ((m : Int) % 2 == 1) = false := by
  rw [show ((m : Int) % 2) = ((m % 2 : Nat) : Int) by omega, show m % 2 = 0 by omega]; rfl
theorem turn_back (s : Nat) (h : s < 4294967296) : bits BinOp.xor IntKind.u32 ↑s 4294967295 = ((4294967295 - s : Nat) : Int) := by
  rw [← xor_ones s h, Nat.xor_comm]
  exact u32_xor_nat s 4294967295 h (by omega)

set_option maxRecDepth 100000 in
set_option maxHeartbeats 1000000 in
theorem refBit_any (A : Option Addr) (n c : Nat) (bs : List UInt8) (w : World) (hr : Bytes w w.heap.size A n bs) (hn : n ≤ maxLen) :
    Calls Try.prog 22 #[.slice A n c] w fun e w' => e = .returned (.int .u32 (onN tabN 0 bs : Nat)) ∧ w = w' := by
  unfold maxLen at hn
  have HL := Lib.hid hr.len
  go_enter Try.func22, Try.ntmps22
  go_wp2_with (fail)
  go_loop [3, 4] (fun s' i => ∃ k : Nat, k ≤ n ∧ i = .int .i64 k ∧ s' = .int .u32 (runN tabN 4294967295 (bs.take k) : Nat)) (fun _ i => n - (intOf i).toNat)
  case atStart => exact ⟨0, by omega, rfl, rfl⟩
  case round =>
    obtain ⟨k, hk, rfl, rfl⟩ := hrel
    have hb := runN_lt tabN tabN_lt (bs.take k) 4294967295 (by omega)
    have hst := fun h => runN_snoc tabN 4294967295 bs k h
    generalize hm : runN tabN 4294967295 (bs.take k) = m at *
    have Hm := Lib.hid hm
    have Hst := Lib.hid hst
    clear hm hst
    by_cases hlt : k < n
    · obtain ⟨ad, rfl, hab, hc⟩ := hr.spot hlt
      generalize bs.getD k 0 = b at *
      have hbl := b.toNat_lt
      have hx := u32_xor_nat m b.toNat hb (by omega)
      have hni := next_iter m b
      have hxl : m ^^^ b.toNat < 4294967296 := Nat.xor_lt_two_pow (n := 32) hb (by omega)
      generalize m ^^^ b.toNat = x at *
      have HNI := Lib.hid hni
      clear hni
      go_wp2_with (fail)
      go_loop [3, 5] (fun s' i => ∃ q : Nat, q ≤ 8 ∧ i = .int .i64 q ∧ s' = .int .u32 (iterN q x : Nat)) (fun _ i => 8 - (intOf i).toNat)
      case atStart => exact ⟨0, by omega, rfl, rfl⟩
      case round =>
        obtain ⟨q, hq, rfl, rfl⟩ := hrel
        have hbm := iterN_lt q x hxl
        generalize hz : iterN q x = z at *
        have Hz := Lib.hid hz
        clear hz
        by_cases hlt2 : q < 8
        · by_cases ho : z % 2 = 1
          · have h1 := rem_true z ho
            have Ho := Lib.hid ho
            clear ho
            go_wp2_with (fail)
            go_round
            case rel => exact ⟨q + 1, by omega, by go_num, by rw [xor_poly z hbm, iterN, Hz.out, stepN, if_pos Ho.out]⟩
            case measure => simp [intOf]; omega
          · have h1 := rem_false z ho
            have Ho := Lib.hid ho
            clear ho
            go_wp2_with (fail)
            go_round
            case rel => exact ⟨q + 1, by omega, by go_num, by rw [iterN, Hz.out, stepN, if_neg Ho.out]; rfl⟩
            case measure => simp [intOf]; omega
        · have hq8 : q = 8 := by omega
          subst hq8
          go_wp2_with (fail)
          go_round
          case rel => exact ⟨k + 1, by omega, by go_num, by rw [Hst.out (by have := HL.out; omega), HNI.out, Hz.out]⟩
          case measure => simp [intOf]; omega
    · have hkn : k = n := by omega
      subst hkn
      go_wp2_with (fail)
      go_ret
      exact ⟨ret_int (by rw [turn_back m hb]; unfold onN; rw [← Hm.out, List.take_of_length_le (by have := HL.out; omega)]), rfl⟩
end Go.Proofs.Ytchndjebgpibjaa
