/-
  The walk of souterrainref04.unnum.
-/
import Derived.Test.YtmfhpfehphbklaaRcNumS
namespace Go.Proofs.Ytmfhpfehphbklaa
open Go.RowKit
set_option linter.unusedSimpArgs false
set_option linter.unusedVariables false

set_option maxRecDepth 100000 in
set_option maxHeartbeats 4000000 in
theorem unnum_any (A : Option Addr) (n c : Nat) (bs : List UInt8) (w : World) (hs : Sl w A n c bs) (hn : n ≤ 6) :
    Calls Try.prog 80 #[.slice A n c] w fun e w' => e = .returned (.int .i64 (valB bs)) ∧ w = w' := by
  have hlen := hs.len
  have HS := Lib.hid hs
  clear hs
  go_enter Try.func80, Try.ntmps80
  go_wp2_with (fail)
  go_loop [3, 4] (fun v i => ∃ j : Nat, j ≤ n ∧ i = .int .i64 (j : Nat) ∧ v = .int .i64 (valB (bs.take j))) (fun _ i => n - (intOf i).toNat)
  case atStart => exact ⟨0, by omega, rfl, rfl⟩
  case round =>
    obtain ⟨j, hj, rfl, rfl⟩ := hrel
    by_cases hlt : j < n
    · obtain ⟨ad, rfl, _, hc⟩ := HS.out.bytes.spot hlt
      have hnx := valB_next bs j (by omega)
      have hsm := valB_small (bs.take j) (by rw [List.length_take]; omega)
      have hsm2 := valB_small (bs.take (j + 1)) (by rw [List.length_take]; omega)
      have hb := (bs.getD j 0).toNat_lt
      generalize bs.getD j 0 = b at *
      generalize valB (bs.take j) = v at *
      have HX := Lib.hid hnx
      have HM := Lib.hid hsm2
      have k0 : (0 : Int) ≤ (j : Int) := by omega
      have k1 : (j : Int) < (n : Int) := by omega
      have e1 : IntKind.i64.wrap (256 * v) = 256 * v := IntWalk.i64_in _ ⟨by omega, by omega⟩
      have e2 : IntKind.i64.wrap (256 * v + (b.toNat : Int)) = 256 * v + (b.toNat : Int) := IntWalk.i64_in _ ⟨by omega, by omega⟩
      have e3 := IntWalk.i64_left (256 * v) ▸ e1
      have e4 := IntWalk.i64_left (256 * v + (b.toNat : Int)) ▸ e2
      clear hnx hsm2
      go_wp2_with (fail)
      go_round
      case rel => exact ⟨j + 1, by omega, by go_num, by rw [HX.out]⟩
      case measure => simp [intOf]; omega
    · obtain rfl : j = n := by omega
      have e1 : bs.take j = bs := List.take_of_length_le (by omega)
      rw [e1]
      go_wp2_with (fail)
      go_ret
      exact ⟨rfl, rfl⟩
end Go.Proofs.Ytmfhpfehphbklaa
