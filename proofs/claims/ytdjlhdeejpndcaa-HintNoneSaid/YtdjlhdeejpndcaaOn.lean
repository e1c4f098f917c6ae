/-
  The walks of sum.On and sum.Of.
-/
import Derived.Test.YtdjlhdeejpndcaaSum
namespace Go.Proofs.Ytdjlhdeejpndcaa
open Go.RowKit
theorem turn_u32 (s : Nat) (h : s < 4294967296) : bits BinOp.xor IntKind.u32 IntKind.u32.max ↑s = ((4294967295 - s : Nat) : Int) := by
  rw [← xor_ones s h]
  exact u32_xor_nat 4294967295 s (by omega) h
theorem xor_u8 (m : Nat) (b : UInt8) : bits BinOp.xor IntKind.u8 ((m : Int) % 256) (b.toNat : Int) = (((m ^^^ b.toNat) % 256 : Nat) : Int) := by
  have hx : (m % 256) ^^^ b.toNat < 2 ^ 8 := Nat.xor_lt_two_pow (by omega) b.toNat_lt
  have h1 : (BitVec.ofInt 8 ((m : Int) % 256)).toNat = m % 256 := by
    rw [show ((m : Int) % 256) = ((m % 256 : Nat) : Int) by omega, BitVec.ofInt_natCast, BitVec.toNat_ofNat]; exact Nat.mod_eq_of_lt (by omega)
  have h2 : (BitVec.ofInt 8 (b.toNat : Int)).toNat = b.toNat := by
    rw [BitVec.ofInt_natCast, BitVec.toNat_ofNat]; exact Nat.mod_eq_of_lt b.toNat_lt
  show IntKind.u8.wrap ((BitVec.ofInt 8 ((m : Int) % 256) ^^^ BitVec.ofInt 8 (b.toNat : Int)).toNat : Int) = _
  rw [BitVec.toNat_xor, h1, h2, IntKind.wrap_u8']
  have h3 : (m ^^^ b.toNat) % 256 = (m % 256) ^^^ b.toNat := by
    rw [show 256 = 2 ^ 8 by rfl, Nat.xor_mod_two_pow, Nat.mod_eq_of_lt b.toNat_lt]
  rw [h3]
  omega
theorem next_u32 (f : Nat → Nat) (hf : ∀ i, i < 256 → f i < 4294967296) (m : Nat) (hm : m < 4294967296) (b : UInt8) (q : Nat) (hq : (m ^^^ b.toNat) % 256 = q) :
    bits BinOp.xor IntKind.u32 ((m : Int) / 256) (f q : Nat) = ((nextN f m b : Nat) : Int) := by
  subst hq
  have := u32_xor_nat (m / 256) (f ((m ^^^ b.toNat) % 256)) (by omega) (hf _ (by omega))
  unfold nextN
  rw [← this]
  rfl
set_option maxRecDepth 100000 in
set_option maxHeartbeats 400000 in
theorem on_any (f : Nat → Nat) (hf : ∀ i, i < 256 → f i < 4294967296) (s : Nat) (hs : s < 4294967296) (A : Option Addr) (n c : Nat) (bs : List UInt8) (w : World) (hr : Bytes w w.heap.size A n bs) (hn : n ≤ maxLen) :
    Calls Try.prog 45 #[.agg (arrV f), .int .u32 s, .slice A n c] w fun e w' => e = .returned (.int .u32 (onN f s bs : Nat)) ∧ Below w.heap.size w w' := by
  unfold maxLen at hn
  have HL := Lib.hid hr.len
  go_enter Try.func45, Try.ntmps45
  go_wp2_with (fail)
  go_loop [1, 13] (fun s' i => ∃ k : Nat, k ≤ n ∧ i = .int .i64 k ∧ s' = .int .u32 (runN f (4294967295 - s) (bs.take k) : Nat)) (fun _ i => n - (intOf i).toNat)
  case atStart => exact ⟨0, by omega, rfl, by rw [turn_u32 s hs]; rfl⟩
  case round =>
    obtain ⟨k, hk, rfl, rfl⟩ := hrel
    have hb := runN_lt f hf (bs.take k) (4294967295 - s) (by omega)
    have hst := fun h => runN_snoc f (4294967295 - s) bs k h
    generalize hm : runN f (4294967295 - s) (bs.take k) = m at *
    have Hm := Lib.hid hm
    have Hst := Lib.hid hst
    clear hm hst
    by_cases hlt : k < n
    · obtain ⟨ad, rfl, hab, hc⟩ := hr.spot hlt
      have hc' : (w.alloc (.cells (arrV f) 75)).cell? (ad.add k) = some (.int .u8 ((bs.getD k 0).toNat : Nat)) := by
        rw [World.cell?_alloc_lt w _ _ (by rw [add_block]; exact hab)]
        exact hc
      clear hc
      generalize bs.getD k 0 = b at *
      have hx := xor_u8 m b
      generalize hq : (m ^^^ b.toNat) % 256 = q at *
      have hq' : q < 256 := by omega
      have hcell := arrV_get f q hq'
      have Hq := Lib.hid hq
      clear hq
      go_wp2_with (fail)
      go_round
      case rel => exact ⟨k + 1, by omega, by go_num, by rw [Hst.out (by have := HL.out; omega), next_u32 f hf m hb b q Hq.out]⟩
      case measure => simp [intOf]; omega
    · obtain rfl : k = n := by omega
      go_wp2_with (fail)
      go_ret
      exact ⟨ret_int (by rw [turn_u32 m hb]; unfold onN; rw [← Hm.out, List.take_of_length_le (by have := HL.out; omega)]), (Below.refl _ _).alloc (Nat.le_refl _) _⟩

set_option maxRecDepth 100000 in
set_option maxHeartbeats 400000 in
theorem of_any (f : Nat → Nat) (hf : ∀ i, i < 256 → f i < 4294967296) (A : Option Addr) (n c : Nat) (bs : List UInt8) (w : World) (hr : Bytes w w.heap.size A n bs) (hn : n ≤ maxLen) :
    Calls Try.prog 35 #[.agg (arrV f), .slice A n c] w fun e w' => e = .returned (.int .u32 (onN f 0 bs : Nat)) ∧ Below w.heap.size w w' := by
  have hw := Whole.made w 75 (arrV f)
  have hr1 := hr.alloc (Nat.le_refl _) (.cells (arrV f) 75)
  have Hw := Lib.hid hw
  clear hw
  go_enter Try.func35, Try.ntmps35
  go_wp2_with (refine wpList_load_row rfl 75 _ rfl w.heap.size rfl 75 _ (0, 0) _ Hw.out Try.underlying75 rfl (by rw [arrV_size]; exact sizeT) ?_)
  refine (on_any f hf 0 (by omega) A n c bs _ (hr1.wider (by simp)) hn).mono ?_
  rintro e w' ⟨rfl, hb⟩
  go_wp2_with (fail)
  go_ret
  exact ⟨rfl, ((Below.refl _ _).alloc (Nat.le_refl _) _).trans (hb.mono (by simp))⟩
theorem tabN_all : ∀ i, i < 256 → tabN i < 4294967296 := tabN_lt
end Go.Proofs.Ytdjlhdeejpndcaa
