/-
  The walks of the answer that package sum is held against: its Table, On, Of and Bit.
-/
import Derived.Test.YtefempiefkcccaaOn
import Derived.Test.YtefempiefkcccaaBurst
namespace Go.Proofs.Ytefempiefkcccaa
open Go.RowKit

theorem rem_true (m : Nat) (h : m % 2 = 1) : ((m : Int) % 2 == 1) = true := by
  rw [show ((m : Int) % 2) = ((m % 2 : Nat) : Int) by omega, h]; rfl
theorem rem_false (m : Nat) (h : ¬ m % 2 = 1) : ((m : Int) % 2 == 1) = false := by
  rw [show ((m : Int) % 2) = ((m % 2 : Nat) : Int) by omega, show m % 2 = 0 by omega]; rfl
theorem turn_back (s : Nat) (h : s < 4294967296) : bits BinOp.xor IntKind.u32 ↑s 4294967295 = ((4294967295 - s : Nat) : Int) := by
  rw [← xor_ones s h, Nat.xor_comm]
  exact u32_xor_nat s 4294967295 h (by omega)

set_option maxRecDepth 100000 in
set_option maxHeartbeats 1000000 in
theorem refTable_any (w : World) :
    Calls Try.prog 11 #[] w fun e w' => e = .returned (.agg (arrV tabN)) ∧ Below w.heap.size w w' := by
  have hz := zeroT
  go_enter Try.func11, Try.ntmps11
  go_wp2_with (fail)
  go_loopw [2] (fun i wr => ∃ k : Nat, k ≤ 256 ∧ i = .int .i64 k ∧ Whole wr w.heap.size 23 (arrV fun _ => 0) ∧ Whole wr (w.heap.size + 1) 23 (arrV (upto tabN k)) ∧ Below w.heap.size w wr) (fun i _ => 256 - (intOf i).toNat)
  case atStart =>
    refine ⟨0, by omega, rfl, ?_, ?_, ?_⟩
    · exact (Whole.made w _ _).alloc _
    · have h := Whole.made (w.alloc (.cells (arrV fun _ => 0) 23)) 23 (arrV fun _ => 0)
      simp only [World.size_alloc] at h
      exact h
    · exact ((Below.refl _ _).alloc (Nat.le_refl _) _).alloc (by simp) _
  case round =>
    obtain ⟨k, hk, rfl, h0, h1, hb⟩ := hrel
    have H1 := Lib.hid h1
    have H0 := Lib.hid h0
    have HBR := Lib.hid hb
    clear h1 h0 hb
    by_cases hlt : k < 256
    · have hc := H1.out.cell k
      rw [arrV_get _ k hlt] at hc
      have hf := H1.out.free k
      obtain ⟨wo, rfl⟩ : ∃ wo : World, wo = wr := ⟨_, rfl⟩
      go_wp2_with (fail)
      go_loop [3, 4] (fun s i => ∃ q : Nat, q ≤ 8 ∧ i = .int .i64 q ∧ s = .int .u32 (iterN q k : Nat)) (fun _ i => 8 - (intOf i).toNat)
      case atStart => exact ⟨0, by omega, rfl, rfl⟩
      case round =>
        obtain ⟨q, hq, rfl, rfl⟩ := hrel
        have hbm := iterN_lt q k (by omega)
        generalize hm : iterN q k = m at *
        have Hm := Lib.hid hm
        clear hm
        by_cases hlt2 : q < 8
        · by_cases ho : m % 2 = 1
          · have h1 := rem_true m ho
            have Ho := Lib.hid ho
            clear ho
            go_wp2_with (fail)
            go_round
            case rel => exact ⟨q + 1, by omega, by go_num, by rw [xor_poly m hbm, iterN, Hm.out, stepN, if_pos Ho.out]⟩
            case measure => simp [intOf]; omega
          · have h1 := rem_false m ho
            have Ho := Lib.hid ho
            clear ho
            go_wp2_with (fail)
            go_round
            case rel => exact ⟨q + 1, by omega, by go_num, by rw [iterN, Hm.out, stepN, if_neg Ho.out]; rfl⟩
            case measure => simp [intOf]; omega
        · have hq8 : q = 8 := by omega
          subst hq8
          go_wp2_with (fail)
          go_roundw
          case rel =>
            refine ⟨k + 1, by omega, by go_num, H0.out.elsewhere (by simp) _, ?_, HBR.out.setCell (by simp) _⟩
            have h := H1.out.put k (.int .u32 (m : Nat))
            rw [arrV_set _ (upto tabN (k + 1)) k m hlt (fun i _ => by rw [upto_next, ← Hm.out]; rfl)] at h
            exact h
          case measure => simp [intOf]; omega
    · obtain rfl : k = 256 := by omega
      have h1 := H1.out
      rw [arrV_ext (upto_all tabN)] at h1
      have H2 := Lib.hid h1
      clear h1 H1
      go_wp2_with (first
        | (refine wpList_load_row rfl 23 _ rfl (w.heap.size + 1) rfl 23 _ (0, 0) _ H2.out Try.underlying23 rfl (by rw [arrV_size]; exact sizeT) ?_)
        | (refine wpList_store_row rfl 23 _ _ rfl w.heap.size (arrV tabN) rfl rfl 23 _ H0.out (by rw [arrV_size]; exact sizeT) (by rw [arrV_size, arrV_size]) (arrV_one _) ?_))
      refine bodyPost_ret (results_cell_row rfl _ _ w.heap.size 23 (arrV tabN) (0, 0) _ rfl (setRow_heap wr w.heap.size _ _ 23 _ H0.out) Try.underlying23 rfl (by rw [arrV_size]; exact sizeT)) rfl ?_
      exact ⟨rfl, below_setRow HBR.out (Nat.le_refl _) _⟩

set_option maxRecDepth 100000 in
set_option maxHeartbeats 1000000 in
theorem refOn_any (f : Nat → Nat) (hf : ∀ i, i < 256 → f i < 4294967296) (s : Nat) (hs : s < 4294967296) (A : Option Addr) (n c : Nat) (bs : List UInt8) (w : World) (hr : Bytes w w.heap.size A n bs) (hn : n ≤ maxLen) :
    Calls Try.prog 13 #[.agg (arrV f), .int .u32 s, .slice A n c] w fun e w' => e = .returned (.int .u32 (onN f s bs : Nat)) ∧ Below w.heap.size w w' := by
  unfold maxLen at hn
  have HL := Lib.hid hr.len
  go_enter Try.func13, Try.ntmps13
  go_wp2_with (fail)
  go_loop [1, 7] (fun s' i => ∃ k : Nat, k ≤ n ∧ i = .int .i64 k ∧ s' = .int .u32 (runN f (4294967295 - s) (bs.take k) : Nat)) (fun _ i => n - (intOf i).toNat)
  case atStart => exact ⟨0, by omega, rfl, by rw [turn_back s hs]; rfl⟩
  case round =>
    obtain ⟨k, hk, rfl, rfl⟩ := hrel
    have hb := runN_lt f hf (bs.take k) (4294967295 - s) (by omega)
    have hst := fun h => runN_snoc f (4294967295 - s) bs k h
    generalize hm : runN f (4294967295 - s) (bs.take k) = m at *
    have Hm := Lib.hid hm
    have Hst := Lib.hid hst
    clear hm hst
    by_cases hlt : k < n
    · obtain ⟨ad, rfl, hab, hc⟩ := hr.spot hlt
      have hc' : (w.alloc (.cells (arrV f) 23)).cell? (ad.add k) = some (.int .u8 ((bs.getD k 0).toNat : Nat)) := by
        rw [World.cell?_alloc_lt w _ _ (by rw [add_block]; exact hab)]
        exact hc
      clear hc
      generalize bs.getD k 0 = b at *
      have hbl := b.toNat_lt
      have hx := u32_xor_nat m b.toNat hb (by omega)
      have hnx := fun q hq => next_u32 f hf m hb b q hq
      have hxl : m ^^^ b.toNat < 4294967296 := Nat.xor_lt_two_pow (n := 32) hb (by omega)
      have hq1 : ((m ^^^ b.toNat : Nat) : Int) % 256 = (((m ^^^ b.toNat) % 256 : Nat) : Int) := by omega
      have hq2 : ((m ^^^ b.toNat : Nat) : Int).tmod 256 = (((m ^^^ b.toNat) % 256 : Nat) : Int) := by rw [Int.tmod_eq_emod_of_nonneg (by omega), hq1]
      have hq' : (m ^^^ b.toNat) % 256 < 256 := by omega
      generalize hq : (m ^^^ b.toNat) % 256 = q at *
      have hcell := arrV_get f q hq'
      have HNX := Lib.hid hnx
      have Hq := Lib.hid hq
      clear hq hnx
      have bq0 : (0 : Int) ≤ (q : Int) := by omega
      have bq1 : (q : Int) < 256 := by omega
      go_wp2_with (fail)
      go_round
      case rel => exact ⟨k + 1, by omega, by go_num, by rw [Hst.out (by have := HL.out; omega), HNX.out q rfl]⟩
      case measure => simp [intOf]; omega
    · have hkn : k = n := by omega
      subst hkn
      go_wp2_with (fail)
      go_ret
      exact ⟨ret_int (by rw [turn_back m hb]; unfold onN; rw [← Hm.out, List.take_of_length_le (by have := HL.out; omega)]), (Below.refl _ _).alloc (Nat.le_refl _) _⟩

set_option maxRecDepth 100000 in
set_option maxHeartbeats 400000 in
theorem refOf_any (f : Nat → Nat) (hf : ∀ i, i < 256 → f i < 4294967296) (A : Option Addr) (n c : Nat) (bs : List UInt8) (w : World) (hr : Bytes w w.heap.size A n bs) (hn : n ≤ maxLen) :
    Calls Try.prog 15 #[.agg (arrV f), .slice A n c] w fun e w' => e = .returned (.int .u32 (onN f 0 bs : Nat)) ∧ Below w.heap.size w w' := by
  have hw := Whole.made w 23 (arrV f)
  have hr1 := hr.alloc (Nat.le_refl _) (.cells (arrV f) 23)
  have Hw := Lib.hid hw
  clear hw
  go_enter Try.func15, Try.ntmps15
  go_wp2_with (refine wpList_load_row rfl 23 _ rfl w.heap.size rfl 23 _ (0, 0) _ Hw.out Try.underlying23 rfl (by rw [arrV_size]; exact sizeT) ?_)
  refine (refOn_any f hf 0 (by omega) A n c bs _ (hr1.wider (by simp)) hn).mono ?_
  rintro e w' ⟨rfl, hb⟩
  go_wp2_with (fail)
  go_ret
  exact ⟨rfl, ((Below.refl _ _).alloc (Nat.le_refl _) _).trans (hb.mono (by simp))⟩

set_option maxRecDepth 100000 in
set_option maxHeartbeats 1000000 in
theorem refBit_any (A : Option Addr) (n c : Nat) (bs : List UInt8) (w : World) (hr : Bytes w w.heap.size A n bs) (hn : n ≤ maxLen) :
    Calls Try.prog 16 #[.slice A n c] w fun e w' => e = .returned (.int .u32 (onN tabN 0 bs : Nat)) ∧ w = w' := by
  unfold maxLen at hn
  have HL := Lib.hid hr.len
  go_enter Try.func16, Try.ntmps16
  go_wp2_with (fail)
  go_loop [3, 4] (fun s' i => ∃ k : Nat, k ≤ n ∧ i = .int .i64 k ∧ s' = .int .u32 (runN tabN 4294967295 (bs.take k) : Nat)) (fun _ i => n - (intOf i).toNat)
  case atStart => exact ⟨0, by omega, rfl, rfl⟩
  case round =>
    obtain ⟨k, hk, rfl, rfl⟩ := hrel
    have hb := runN_lt tabN tabN_lt (bs.take k) 4294967295 (by omega)
    have hst := fun h => runN_snoc tabN 4294967295 bs k h
    generalize hm : runN tabN 4294967295 (bs.take k) = m at *
    have Hm := Lib.hid hm
    have Hst := Lib.hid hst
    clear hm hst
    by_cases hlt : k < n
    · obtain ⟨ad, rfl, hab, hc⟩ := hr.spot hlt
      generalize bs.getD k 0 = b at *
      have hbl := b.toNat_lt
      have hx := u32_xor_nat m b.toNat hb (by omega)
      have hni := next_iter m b
      have hxl : m ^^^ b.toNat < 4294967296 := Nat.xor_lt_two_pow (n := 32) hb (by omega)
      generalize m ^^^ b.toNat = x at *
      have HNI := Lib.hid hni
      clear hni
      go_wp2_with (fail)
      go_loop [3, 5] (fun s' i => ∃ q : Nat, q ≤ 8 ∧ i = .int .i64 q ∧ s' = .int .u32 (iterN q x : Nat)) (fun _ i => 8 - (intOf i).toNat)
      case atStart => exact ⟨0, by omega, rfl, rfl⟩
      case round =>
        obtain ⟨q, hq, rfl, rfl⟩ := hrel
        have hbm := iterN_lt q x hxl
        generalize hz : iterN q x = z at *
        have Hz := Lib.hid hz
        clear hz
        by_cases hlt2 : q < 8
        · by_cases ho : z % 2 = 1
          · have h1 := rem_true z ho
            have Ho := Lib.hid ho
            clear ho
            go_wp2_with (fail)
            go_round
            case rel => exact ⟨q + 1, by omega, by go_num, by rw [xor_poly z hbm, iterN, Hz.out, stepN, if_pos Ho.out]⟩
            case measure => simp [intOf]; omega
          · have h1 := rem_false z ho
            have Ho := Lib.hid ho
            clear ho
            go_wp2_with (fail)
            go_round
            case rel => exact ⟨q + 1, by omega, by go_num, by rw [iterN, Hz.out, stepN, if_neg Ho.out]; rfl⟩
            case measure => simp [intOf]; omega
        · have hq8 : q = 8 := by omega
          subst hq8
          go_wp2_with (fail)
          go_round
          case rel => exact ⟨k + 1, by omega, by go_num, by rw [Hst.out (by have := HL.out; omega), HNI.out, Hz.out]⟩
          case measure => simp [intOf]; omega
    · have hkn : k = n := by omega
      subst hkn
      go_wp2_with (fail)
      go_ret
      exact ⟨ret_int (by rw [turn_back m hb]; unfold onN; rw [← Hm.out, List.take_of_length_le (by have := HL.out; omega)]), rfl⟩
end Go.Proofs.Ytefempiefkcccaa
