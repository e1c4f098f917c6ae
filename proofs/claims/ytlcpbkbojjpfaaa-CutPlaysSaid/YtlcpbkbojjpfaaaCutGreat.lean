/-
  Is it too much that is to be written?
-/
import Derived.Test.YtlcpbkbojjpfaaaCutOps
import Derived.ProofKit
import Derived.ChangeOld
namespace Go.Proofs.Ytlcpbkbojjpfaaa
open Go.ChangeShapes Go.WideShapes Go.ChangeAt Go.RowKit
set_option linter.unusedSimpArgs false
set_option linter.unusedVariables false

theorem fit_i {i n : Nat} (h : i < n) (hn : n ≤ 40000) : i + 1 ≤ 1000000000000000 := by omega
set_option maxRecDepth 100000 in
set_option maxHeartbeats 8000000 in
theorem great_ops (A : Option Addr) (n c : Nat) (os : List (Int × List UInt8)) (w : World) (hx : Ops w A n c os) :
    Calls Try.prog 30 #[.slice A n c] w fun e w' => (e = .returned (.bool true) ∧ w = w') ∨ (e = .returned (.bool false) ∧ n + opsLen os < 20000 ∧ w = w') := by
  have HX := Lib.hid hx
  have HLEN := Lib.hid hx.len
  have hnc := hx.cap
  clear hx
  go_enter Try.func30, Try.ntmps30
  go_wp2_with (fail)
  by_cases hbig : 20000 ≤ n
  · have hb1 : ¬ n < 20000 := by omega
    have hb2 : ¬ (n : Int) < 20000 := by omega
    have hb3 : (20000 : Int) ≤ (n : Int) := by omega
    go_loopw [3, 4] (fun vn vi wr => vn = .int .i64 (n : Nat) ∧ vi = .int .i64 0 ∧ w = wr) (fun _ _ _ => 0)
    case atStart => exact ⟨rfl, rfl, rfl⟩
    case round =>
      obtain ⟨rfl, rfl, rfl⟩ := hrel
      have h0 : (0 : Int) < (n : Int) := by omega
      have h0' : 0 < n := by omega
      go_wp2_with (fail)
      go_ret
      exact .inl ⟨rfl, rfl⟩
  · go_loopw [3, 4] (fun vn vi wr => ∃ k acc : Nat, k ≤ n ∧ acc ≤ 40000 ∧ vn = .int .i64 (acc : Nat) ∧ vi = .int .i64 (k : Nat) ∧ Hid (acc = n + opsMin (os.take k)) ∧ w = wr) (fun _ i _ => n - (intOf i).toNat)
    case atStart => exact ⟨0, n, Nat.zero_le _, by omega, rfl, rfl, Lib.hid (by simp [opsMin]), rfl⟩
    case round =>
      obtain ⟨k, acc, hk, hacc, rfl, rfl, HACC, rfl⟩ := hrel
      by_cases hlt : k < n
      · by_cases hac : acc < 20000
        · obtain ⟨ad, B, m, d, rfl, hblk, c0, c1, hsl⟩ := HX.out.spot k hlt
          have HSL := Lib.hid hsl
          rw [← add_twice, add_one] at c1
          have k0 : (0 : Int) ≤ (k : Int) := by omega
          have k1 : (k : Int) < (n : Int) := by omega
          have ii : IntKind.i64.wrap ((k : Int) + 1) = (k : Int) + 1 := (fit_sumB k 1 (k + 1) rfl (fit_i hlt (by omega))).1
          clear hsl
          by_cases hm : 20000 < m
          · have hmI : (20000 : Int) < (m : Int) := by omega
            obtain ⟨ks, ks2⟩ := fit_sumB acc 20000 (acc + 20000) rfl (by omega)
            have hval : acc + 20000 = n + opsMin (os.take (k + 1)) := by
              have h1 := HACC.out
              have h2 := opsMin_one (os := os) (i := k) (by rw [HLEN.out]; exact hlt)
              have h3 := HSL.out.len
              rw [h2]
              omega
            have HVAL := Lib.hid hval
            clear hval
            go_wp2_with (fail)
            go_roundw
            case rel => exact ⟨k + 1, acc + 20000, by omega, by omega, by go_num, by go_num, HVAL, trivial⟩
            case measure => simp [intOf]; omega
          · have hmI : ¬ (20000 : Int) < (m : Int) := by omega
            obtain ⟨ks, ks2⟩ := fit_sumB acc m (acc + m) rfl (by omega)
            have hval : acc + m = n + opsMin (os.take (k + 1)) := by
              have h1 := HACC.out
              have h2 := opsMin_one (os := os) (i := k) (by rw [HLEN.out]; exact hlt)
              have h3 := HSL.out.len
              rw [h2]
              omega
            have HVAL := Lib.hid hval
            clear hval
            go_wp2_with (fail)
            go_roundw
            case rel => exact ⟨k + 1, acc + m, by omega, by omega, by go_num, by go_num, HVAL, trivial⟩
            case measure => simp [intOf]; omega
        · have hb3 : (20000 : Int) ≤ (acc : Int) := by omega
          have k1 : (k : Int) < (n : Int) := by omega
          go_wp2_with (fail)
          go_ret
          exact .inl ⟨rfl, rfl⟩
      · obtain rfl : k = n := by omega
        by_cases h2 : 20000 ≤ acc
        · have h3 : (20000 : Int) ≤ (acc : Int) := by omega
          go_wp2_with (fail)
          go_ret
          exact .inl ⟨rfl, rfl⟩
        · have h3 : ¬ (20000 : Int) ≤ (acc : Int) := by omega
          have h4 : acc < 20000 := by omega
          go_wp2_with (fail)
          go_ret
          refine .inr ⟨rfl, ?_, rfl⟩
          have h1 := HACC.out
          rw [List.take_of_length_le (by rw [HLEN.out]; exact Nat.le_refl _)] at h1
          rw [opsMin_small (by omega)]
          omega
end Go.Proofs.Ytlcpbkbojjpfaaa
