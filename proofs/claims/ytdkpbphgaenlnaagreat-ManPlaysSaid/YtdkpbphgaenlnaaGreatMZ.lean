/-
  Texts that the statements' proofs lean on, one behind the other.
-/
import Derived.Test.YtdkpbphgaenlnaaGreatOn
import Derived.Test.YtdkpbphgaenlnaaGreatML
import Derived.Test.YtdkpbphgaenlnaaGreatFHead
import Derived.Test.YtdkpbphgaenlnaaGreatSteps
/-
  The walk of the answer's sum that is told bit by bit.
-/
namespace Go.Proofs.YtdkpbphgaenlnaaGreat
open Go.RowKit

theorem rem_true (m : Nat) (h : m % 2 = 1) : ((m : Int) % 2 == 1) = true := by
  rw [show ((m : Int) % 2) = ((m % 2 : Nat) : Int) by omega, h]; rfl
theorem rem_false (m : Nat) (h : ¬ m % 2 = 1) : ((m : Int) % 2 == 1) = false := by
  rw [show ((m : Int) % 2) = ((m % 2 : Nat) : Int) by omega, show m % 2 = 0 by omega]; rfl
theorem turn_back (s : Nat) (h : s < 4294967296) : bits BinOp.xor IntKind.u32 ↑s 4294967295 = ((4294967295 - s : Nat) : Int) := by
  rw [← xor_ones s h, Nat.xor_comm]
  exact u32_xor_nat s 4294967295 h (by omega)

set_option maxRecDepth 100000 in
set_option maxHeartbeats 1000000 in
theorem refBit_any (A : Option Addr) (n c : Nat) (bs : List UInt8) (w : World) (hr : Bytes w w.heap.size A n bs) (hn : n ≤ maxLen) :
    Calls Tryz.prog 145 #[.slice A n c] w fun e w' => e = .returned (.int .u32 (onN tabN 0 bs : Nat)) ∧ w = w' := by
  unfold maxLen at hn
  have HL := Lib.hid hr.len
  go_enter Tryz.func145, Tryz.ntmps145
  go_wp2_with (fail)
  go_loop [3, 4] (fun s' i => ∃ k : Nat, k ≤ n ∧ i = .int .i64 k ∧ s' = .int .u32 (runN tabN 4294967295 (bs.take k) : Nat)) (fun _ i => n - (intOf i).toNat)
  case atStart => exact ⟨0, by omega, rfl, rfl⟩
  case round =>
    obtain ⟨k, hk, rfl, rfl⟩ := hrel
    have hb := runN_lt tabN tabN_lt (bs.take k) 4294967295 (by omega)
    have hst := fun h => runN_snoc tabN 4294967295 bs k h
    generalize hm : runN tabN 4294967295 (bs.take k) = m at *
    have Hm := Lib.hid hm
    have Hst := Lib.hid hst
    clear hm hst
    by_cases hlt : k < n
    · obtain ⟨ad, rfl, hab, hc⟩ := hr.spot hlt
      generalize bs.getD k 0 = b at *
      have hbl := b.toNat_lt
      have hx := u32_xor_nat m b.toNat hb (by omega)
      have hni := next_iter m b
      have hxl : m ^^^ b.toNat < 4294967296 := Nat.xor_lt_two_pow (n := 32) hb (by omega)
      generalize m ^^^ b.toNat = x at *
      have HNI := Lib.hid hni
      clear hni
      go_wp2_with (fail)
      go_loop [3, 5] (fun s' i => ∃ q : Nat, q ≤ 8 ∧ i = .int .i64 q ∧ s' = .int .u32 (iterN q x : Nat)) (fun _ i => 8 - (intOf i).toNat)
      case atStart => exact ⟨0, by omega, rfl, rfl⟩
      case round =>
        obtain ⟨q, hq, rfl, rfl⟩ := hrel
        have hbm := iterN_lt q x hxl
        generalize hz : iterN q x = z at *
        have Hz := Lib.hid hz
        clear hz
        by_cases hlt2 : q < 8
        · by_cases ho : z % 2 = 1
          · have h1 := rem_true z ho
            have Ho := Lib.hid ho
            clear ho
            go_wp2_with (fail)
            go_round
            case rel => exact ⟨q + 1, by omega, by go_num, by rw [xor_poly z hbm, iterN, Hz.out, stepN, if_pos Ho.out]⟩
            case measure => simp [intOf]; omega
          · have h1 := rem_false z ho
            have Ho := Lib.hid ho
            clear ho
            go_wp2_with (fail)
            go_round
            case rel => exact ⟨q + 1, by omega, by go_num, by rw [iterN, Hz.out, stepN, if_neg Ho.out]; rfl⟩
            case measure => simp [intOf]; omega
        · have hq8 : q = 8 := by omega
          subst hq8
          go_wp2_with (fail)
          go_round
          case rel => exact ⟨k + 1, by omega, by go_num, by rw [Hst.out (by have := HL.out; omega), HNI.out, Hz.out]⟩
          case measure => simp [intOf]; omega
    · have hkn : k = n := by omega
      subst hkn
      go_wp2_with (fail)
      go_ret
      exact ⟨ret_int (by rw [turn_back m hb]; unfold onN; rw [← Hm.out, List.take_of_length_le (by have := HL.out; omega)]), rfl⟩
end Go.Proofs.YtdkpbphgaenlnaaGreat

/-
  The walks of the answer that package frame is held against: its Size, Put.
-/
namespace Go.Proofs.YtdkpbphgaenlnaaGreat
open Go.RowKit

set_option maxHeartbeats 400000 in
theorem refSize_any (n : Int) (w : World) (h1 : -9223372036854775808 ≤ n) (h2 : n ≤ 9223372036854775807) :
    Calls Tryz.prog 132 #[.int .i64 n] w fun e w' => e = .returned (.int .i64 (sizeN n)) ∧ w = w' := by
  by_cases ha : n < 1
  · have hd : decide (n < 1) = true := by simp; omega
    go_enter Tryz.func132, Tryz.ntmps132
    go_wp2
    go_ret
    exact ⟨ret_int (by unfold sizeN; rw [if_neg (by omega)]), rfl⟩
  · have hd : decide (n < 1) = false := by simp; omega
    by_cases hb : 8192 < n
    · have hd2 : decide (8192 < n) = true := by simp; omega
      go_enter Tryz.func132, Tryz.ntmps132
      go_wp2
      go_ret
      exact ⟨ret_int (by unfold sizeN; rw [if_neg (by omega)]), rfl⟩
    · have hd2 : decide (8192 < n) = false := by simp; omega
      go_enter Tryz.func132, Tryz.ntmps132
      go_wp2
      go_ret
      exact ⟨ret_int (by unfold sizeN; rw [if_pos (by omega)]), rfl⟩

theorem raw_head (n x y : Nat) (hx : n / 256 = x) (hy : n % 256 = y) (h : x < 256) : (headB n).map byteV = [.int .u8 (x : Int), .int .u8 (y : Int), .int .u8 (255 - (x : Int)), .int .u8 (255 - (y : Int))] := by
  unfold headB
  rw [hx, hy, Nat.mod_eq_of_lt h, byteV_of (x := (x : Int)) (n := x) (by omega), byteV_of (x := (y : Int)) (n := n) (by omega), byteV_of (x := 255 - (x : Int)) (n := 255 - x) (by omega), byteV_of (x := 255 - (y : Int)) (n := 255 - y) (by omega)]
  rfl
theorem raw_low (s : Nat) (h : s < 4294967296) : #[Value.int .u8 ((s : Int) % 256), .int .u8 ((s : Int) / 256 % 256), .int .u8 ((s : Int) / 65536 % 256), .int .u8 ((s : Int) / 16777216)] = ((lowB s).map byteV).toArray := by
  rw [byteV_of (n := s) (by omega), byteV_of (n := s / 256) (by omega), byteV_of (n := s / 65536) (by omega), byteV_of (n := s / 16777216) (by omega)]
  rfl

theorem refPut_none (A : Option Addr) (n c : Nat) (w : World) (hn : n ≤ maxLen) (h : ¬ (1 ≤ n ∧ n ≤ 8192)) :
    Calls Tryz.prog 109 #[.slice A n c] w fun e w' => e = .returned (.slice none 0 0) ∧ Below w.heap.size w w' := by
  unfold maxLen at hn
  have hz : sizeN n = 0 := by unfold sizeN; rw [if_neg (by omega)]
  go_enter Tryz.func109, Tryz.ntmps109
  go_wp2_with (fail)
  refine (refSize_any _ _ (by omega) (by omega)).mono ?_
  rintro e w1 ⟨rfl, rfl⟩
  go_wp2_with (fail)
  go_ret
  exact ⟨rfl, Below.refl _ _⟩

set_option maxRecDepth 100000 in
set_option maxHeartbeats 1000000 in
theorem refPut_some (A : Option Addr) (n c : Nat) (bs : List UInt8) (w : World) (hs : Sl w A n c bs) (h1 : 1 ≤ n) (h2 : n ≤ 8192) :
    Calls Tryz.prog 109 #[.slice A n c] w fun e w' => ∃ A' c', e = .returned (.slice A' (n + 8) c') ∧ w'.ownsRow w.heap.size 5 1 (.slice A' (n + 8) c') (n + 8) ((frameB bs).map byteV) ∧ Below w.heap.size w w' := by
  have hz : sizeN n = ((n + 8 : Nat) : Int) := by unfold sizeN; rw [if_pos (by omega)]; rfl
  have hne : ((((n + 8 : Nat) : Int)) == 0) = false := by simp; omega
  obtain ⟨i0, hi, hz0, hz1, hz2⟩ := info_parts infoU8
  have HI := Lib.hid hi
  have HZ := Lib.hid (And.intro hz0 (And.intro hz1 hz2))
  have HS := Lib.hid hs
  clear hs hi hz0 hz1 hz2
  generalize hm : ((n + 8 : Nat) : Int) = m at *
  have q1 : (n : Int).tdiv 256 = ((n / 256 : Nat) : Int) := by rw [Int.tdiv_eq_ediv_of_nonneg (by omega)]; omega
  have q2 : (n : Int).tmod 256 = ((n % 256 : Nat) : Int) := by rw [Int.tmod_eq_emod_of_nonneg (by omega)]; omega
  have q3 : n / 256 < 33 := by omega
  have q4 : n % 256 < 256 := by omega
  generalize hx : n / 256 = x at *
  generalize hy : n % 256 = y at *
  have HX := Lib.hid hx
  have HY := Lib.hid hy
  clear hx hy
  go_enter Tryz.func109, Tryz.ntmps109
  go_wp2_with (fail)
  refine (refSize_any _ _ (by omega) (by omega)).mono ?_
  rintro e w1 ⟨rfl, rfl⟩
  have hl0 := World.ownsRow_lit (size := 1) (base := w.heap.size) (e := 5) w #[.int .u8 (x : Int), .int .u8 (y : Int), .int .u8 (255 - (x : Int)), .int .u8 (255 - (y : Int))] 4 (Nat.le_refl _) (by unfold maxLen; omega) rfl
  have HL0 := Lib.hid hl0
  clear hl0
  go_wp2_with (first
    | (at_builtin
       refine list_append_row rfl (.tmp 25) (.tmp 26) _ rfl Tryz.underlying55 HI.out HZ.out.1 HZ.out.2.1 HZ.out.2.2 rfl (v := .slice (some ⟨w.heap.size, 0, none⟩) 4 4) rfl HL0.out (A := A) (m := n) (c := c) rfl (HS.out.alloc _).bytes HS.out.bare (byteV_one _) (n + 4) (by omega) ((headB n ++ bs).map byteV) (by rw [List.map_append, raw_head n x y HX.out HY.out (by omega)]) (by unfold maxLen; omega) (by omega) (by simp) ?_
       intro A1 c1 w1 hown1 hbare1 hg1 hat1
       have hb1 : Below w.heap.size w w1 := (((Below.refl _ _).alloc (Nat.le_refl _) _).grown hg1 (by simp) (fun k hk => by injection hk with hk; exact Nat.le_of_eq hk))
       have HOWN1 := Lib.hid hown1
       have HB1 := Lib.hid hb1
       clear hown1 hbare1 hg1 hat1 hb1))
  refine (refBit_any A1 (n + 4) c1 _ w1 (Row.owned HOWN1.out) (by unfold maxLen; omega)).mono ?_
  rintro e w2 ⟨rfl, rfl⟩
  have hlt := onN_lt tabN 0 (headB n ++ bs)
  generalize hsu : onN tabN 0 (headB n ++ bs) = s at *
  have HSU := Lib.hid hsu
  clear hsu
  have hm2 := Whole.made w1 5 #[.int .u8 ((s : Int) % 256), .int .u8 ((s : Int) / 256 % 256), .int .u8 ((s : Int) / 65536 % 256), .int .u8 ((s : Int) / 16777216)]
  have hb2 : Grows w1 (w1.alloc (.cells #[.int .u8 ((s : Int) % 256), .int .u8 ((s : Int) / 256 % 256), .int .u8 ((s : Int) / 65536 % 256), .int .u8 ((s : Int) / 16777216)] 5)) := (Below.refl _ _).alloc (Nat.le_refl _) _
  have HM2 := Lib.hid hm2
  have HG2 := Lib.hid hb2
  have HOWN2 := Lib.hid (owned_grow HOWN1.out hb2)
  have HB2 := Lib.hid (HB1.out.trans (hb2.mono HB1.out.size))
  clear hm2 hb2 HL0
  go_wp2_with (first
    | (at_builtin
       refine list_append_row rfl (.tmp 30) (.tmp 42) _ rfl Tryz.underlying55 HI.out HZ.out.1 HZ.out.2.1 HZ.out.2.2 rfl (v := .slice A1 (n + 4) c1) rfl HOWN2.out (A := some ⟨w1.heap.size, 0, none⟩) (m := 4) (c := 4) rfl (HM2.out.sl (lowB s) (by rw [raw_low s hlt]) rfl).bytes (fun h => by cases h) (byteV_one _) (n + 8) (by omega) (((headB n ++ bs) ++ lowB s).map byteV) (List.map_append).symm (by unfold maxLen; omega) (by omega) HB2.out.size ?_
       intro A7 c7 w7 hown7 hbare7 hg7 hat7
       have hb7 : Below w.heap.size w w7 := HB2.out.grown hg7 HB2.out.size (fun k hk => (HOWN2.out.lt k hk).1)
       have HOWN7 := Lib.hid hown7
       have HB7 := Lib.hid hb7
       clear hown7 hbare7 hg7 hat7 hb7))
  go_ret
  refine ⟨A7, c7, rfl, ?_, HB7.out⟩
  have hf : frameB bs = (headB n ++ bs) ++ lowB s := by
    unfold frameB tailB
    rw [HS.out.len, HSU.out]
  rw [hf]
  exact HOWN7.out

theorem refPut_own (A : Option Addr) (n c : Nat) (bs : List UInt8) (w : World) (hs : Sl w A n c bs) (hn : n ≤ maxLen) :
    Calls Tryz.prog 109 #[.slice A n c] w fun e w' => ∃ A' m c', e = .returned (.slice A' m c') ∧ w'.ownsRow w.heap.size 5 1 (.slice A' m c') m ((putB bs).map byteV) ∧ Below w.heap.size w w' := by
  have hl := hs.len
  by_cases h : 1 ≤ n ∧ n ≤ 8192
  · refine (refPut_some A n c bs w hs h.1 h.2).mono ?_
    rintro e w' ⟨A', c', rfl, hs', hb⟩
    refine ⟨A', n + 8, c', rfl, ?_, hb⟩
    unfold putB
    rw [hl, if_pos h]
    exact hs'
  · refine (refPut_none A n c w hn h).mono ?_
    rintro e w' ⟨rfl, hb⟩
    refine ⟨none, 0, 0, rfl, ?_, hb⟩
    unfold putB
    rw [hl, if_neg h]
    exact World.ownsRow_nil _ _ _ _
theorem refPut_any (A : Option Addr) (n c : Nat) (bs : List UInt8) (w : World) (hs : Sl w A n c bs) (hn : n ≤ maxLen) :
    Calls Tryz.prog 109 #[.slice A n c] w fun e w' => ∃ A' m c', e = .returned (.slice A' m c') ∧ Sl w' A' m c' (putB bs) ∧ Below w.heap.size w w' :=
  (refPut_own A n c bs w hs hn).mono fun _ _ ⟨A', m, c', he, ho, hb⟩ => ⟨A', m, c', he, Sl.owned ho, hb⟩
end Go.Proofs.YtdkpbphgaenlnaaGreat

/-
  The walk of the answer's First.
-/
namespace Go.Proofs.YtdkpbphgaenlnaaGreat
open Go.RowKit

theorem rf_short (A : Option Addr) (n c : Nat) (w : World) (h : n < 4) :
    Calls Tryz.prog 116 #[.slice A n c] w fun e w' => e = .returned (.tuple #[.slice none 0 0, .int .i64 0, .int .i64 21]) ∧ Below w.heap.size w w' := by
  go_enter Tryz.func116, Tryz.ntmps116
  go_wp2_with (fail)
  go_ret3
  exact ⟨rfl, Below.refl _ _⟩

set_option maxRecDepth 100000 in
set_option maxHeartbeats 2000000 in
theorem rf_zero (ad : Addr) (n c : Nat) (b0 b1 b2 b3 : UInt8) (bs : List UInt8) (w : World) (hs : Sl w (some ad) n c (b0 :: b1 :: b2 :: b3 :: bs)) (hn : n ≤ 140737488351232) (T : Nat) (hT : 256 * b0.toNat + b1.toNat = T) (h0 : ¬ (1 ≤ T ∧ T ≤ 8192)) :
    Calls Tryz.prog 116 #[.slice (some ad) n c] w fun e w' => e = .returned (.tuple #[.slice none 0 0, .int .i64 0, .int .i64 22]) ∧ Below w.heap.size w w' := by
  have hcap := hs.cap
  have hlen := hs.len
  obtain ⟨h4, _⟩ := first_cells hs
  have c0 := fun w' (hw : Grows w w') => (first_cells (hs.grow hw)).2.1
  have c1 := fun w' (hw : Grows w w') => (first_cells (hs.grow hw)).2.2.1
  have c2 := (first_cells hs).2.2.2.1
  have c3 := (first_cells hs).2.2.2.2
  have h4' : ((n : Int) < 4) = False := by simp; omega
  have i0 : (0 : Int) < (n : Int) := by omega
  have i1 : (1 : Int) < (n : Int) := by omega
  have i0' : 0 < n := by omega
  have i1' : 1 < n := by omega
  have i2' : 2 < n := by omega
  have i3' : 3 < n := by omega
  have i2 : (2 : Int) < (n : Int) := by omega
  have i3 : (3 : Int) < (n : Int) := by omega
  have HS := Lib.hid hs
  have HL := Lib.hid hlen
  have p0 := b0.toNat_lt
  have p1 := b1.toNat_lt
  have p2 := b2.toNat_lt
  have p3 := b3.toNat_lt
  clear hs hlen
  have hz : sizeN (T : Int) = 0 := by unfold sizeN; rw [if_neg (by omega)]
  have w0 : IntKind.i64.wrap (b0.toNat : Int) = (b0.toNat : Int) := IntWalk.i64_in _ (by omega)
  have w1 : IntKind.i64.wrap (b1.toNat : Int) = (b1.toNat : Int) := IntWalk.i64_in _ (by omega)
  have w2 : IntKind.i64.wrap (256 * (b0.toNat : Int)) = 256 * (b0.toNat : Int) := IntWalk.i64_in _ (by omega)
  have w3 : IntKind.i64.wrap (256 * (b0.toNat : Int) + (b1.toNat : Int)) = (T : Int) := (IntWalk.i64_in _ (by omega)).trans (by omega)
  have q1 : (T : Int).tdiv 256 = (b0.toNat : Int) := by rw [Int.tdiv_eq_ediv_of_nonneg (by omega)]; omega
  have q2 : (T : Int).tmod 256 = (b1.toNat : Int) := by rw [Int.tmod_eq_emod_of_nonneg (by omega)]; omega
  have hTb : T < 65536 := by omega
  generalize b0.toNat = m0 at *
  generalize b1.toNat = m1 at *
  generalize b2.toNat = m2 at *
  generalize b3.toNat = m3 at *
  have HT := Lib.hid hT
  clear hT
  go_enter Tryz.func116, Tryz.ntmps116
  go_wp2_with (fail)
  refine q_region (by kernel_rfl) (by kernel_rfl) ?_
  iterate 11 (first
    | (refine q_op' (v := ?_) (a' := ?_) (by rfl) ?_ ?_ ?_
       rotate_left 2
       · intro w' hC
         go_simp
         try with_reducible rfl
       · simp only [Act.put, List.setIfInBounds_toArray, List.set_cons_zero, List.set_cons_succ]
         try rfl)
    | (refine q_skip' (a' := ?_) (by rfl) ?_ ?_
       rotate_left 1
       · simp only [Act.put, List.setIfInBounds_toArray, List.set_cons_zero, List.set_cons_succ]
         try rfl))
  refine wpQuiet_nil ?_
  intro w4 hC
  have HG4 := Lib.hid (show Grows w w4 from hC)
  have c0 := c0 w4 hC
  have c1 := c1 w4 hC
  have c2 := (hC.cell (p := { block := ad.block, off := ad.off + 2 }) (by have := World.block_lt_of_cell? w _ c2; exact this)).trans c2
  have c3 := (hC.cell (p := { block := ad.block, off := ad.off + 3 }) (by have := World.block_lt_of_cell? w _ c3; exact this)).trans c3
  clear hC
  go_wp2_with (fail)
  refine (refSize_any _ _ (by omega) (by omega)).mono ?_
  rintro e w5 ⟨rfl, rfl⟩
  go_wp2_with (fail)
  go_ret3
  exact ⟨rfl, HG4.out⟩

set_option maxRecDepth 100000 in
set_option maxHeartbeats 2000000 in
theorem rf_two (ad : Addr) (n c : Nat) (b0 b1 b2 b3 : UInt8) (bs : List UInt8) (w : World) (hs : Sl w (some ad) n c (b0 :: b1 :: b2 :: b3 :: bs)) (hn : n ≤ 140737488351232) (T : Nat) (hT : 256 * b0.toNat + b1.toNat = T) (h1 : 1 ≤ T) (h2 : T ≤ 8192) (x2 : ¬ b2.toNat + b0.toNat = 255) :
    Calls Tryz.prog 116 #[.slice (some ad) n c] w fun e w' => e = .returned (.tuple #[.slice none 0 0, .int .i64 0, .int .i64 22]) ∧ Below w.heap.size w w' := by
  have hcap := hs.cap
  have hlen := hs.len
  obtain ⟨h4, _⟩ := first_cells hs
  have c0 := fun w' (hw : Grows w w') => (first_cells (hs.grow hw)).2.1
  have c1 := fun w' (hw : Grows w w') => (first_cells (hs.grow hw)).2.2.1
  have c2 := (first_cells hs).2.2.2.1
  have c3 := (first_cells hs).2.2.2.2
  have h4' : ((n : Int) < 4) = False := by simp; omega
  have i0 : (0 : Int) < (n : Int) := by omega
  have i1 : (1 : Int) < (n : Int) := by omega
  have i0' : 0 < n := by omega
  have i1' : 1 < n := by omega
  have i2' : 2 < n := by omega
  have i3' : 3 < n := by omega
  have i2 : (2 : Int) < (n : Int) := by omega
  have i3 : (3 : Int) < (n : Int) := by omega
  have HS := Lib.hid hs
  have HL := Lib.hid hlen
  have p0 := b0.toNat_lt
  have p1 := b1.toNat_lt
  have p2 := b2.toNat_lt
  have p3 := b3.toNat_lt
  clear hs hlen
  have hz : sizeN (T : Int) = (T : Int) + 8 := by unfold sizeN; rw [if_pos (by omega)]
  have hz0 : ((T : Int) + 8 == 0) = false := by simp; omega
  have he2 : ((b2.toNat : Int) == 255 - (b0.toNat : Int)) = false := by simp; omega
  have w0 : IntKind.i64.wrap (b0.toNat : Int) = (b0.toNat : Int) := IntWalk.i64_in _ (by omega)
  have w1 : IntKind.i64.wrap (b1.toNat : Int) = (b1.toNat : Int) := IntWalk.i64_in _ (by omega)
  have w2 : IntKind.i64.wrap (256 * (b0.toNat : Int)) = 256 * (b0.toNat : Int) := IntWalk.i64_in _ (by omega)
  have w3 : IntKind.i64.wrap (256 * (b0.toNat : Int) + (b1.toNat : Int)) = (T : Int) := (IntWalk.i64_in _ (by omega)).trans (by omega)
  have q1 : (T : Int).tdiv 256 = (b0.toNat : Int) := by rw [Int.tdiv_eq_ediv_of_nonneg (by omega)]; omega
  have q2 : (T : Int).tmod 256 = (b1.toNat : Int) := by rw [Int.tmod_eq_emod_of_nonneg (by omega)]; omega
  have hTb : T < 65536 := by omega
  generalize b0.toNat = m0 at *
  generalize b1.toNat = m1 at *
  generalize b2.toNat = m2 at *
  generalize b3.toNat = m3 at *
  have HT := Lib.hid hT
  clear hT
  go_enter Tryz.func116, Tryz.ntmps116
  go_wp2_with (fail)
  refine q_region (by kernel_rfl) (by kernel_rfl) ?_
  iterate 11 (first
    | (refine q_op' (v := ?_) (a' := ?_) (by rfl) ?_ ?_ ?_
       rotate_left 2
       · intro w' hC
         go_simp
         try with_reducible rfl
       · simp only [Act.put, List.setIfInBounds_toArray, List.set_cons_zero, List.set_cons_succ]
         try rfl)
    | (refine q_skip' (a' := ?_) (by rfl) ?_ ?_
       rotate_left 1
       · simp only [Act.put, List.setIfInBounds_toArray, List.set_cons_zero, List.set_cons_succ]
         try rfl))
  refine wpQuiet_nil ?_
  intro w4 hC
  have HG4 := Lib.hid (show Grows w w4 from hC)
  have c0 := c0 w4 hC
  have c1 := c1 w4 hC
  have c2 := (hC.cell (p := { block := ad.block, off := ad.off + 2 }) (by have := World.block_lt_of_cell? w _ c2; exact this)).trans c2
  have c3 := (hC.cell (p := { block := ad.block, off := ad.off + 3 }) (by have := World.block_lt_of_cell? w _ c3; exact this)).trans c3
  clear hC
  go_wp2_with (fail)
  refine (refSize_any _ _ (by omega) (by omega)).mono ?_
  rintro e w5 ⟨rfl, rfl⟩
  go_wp2_with (fail)
  go_ret3
  exact ⟨rfl, HG4.out⟩

set_option maxRecDepth 100000 in
set_option maxHeartbeats 2000000 in
theorem rf_three (ad : Addr) (n c : Nat) (b0 b1 b2 b3 : UInt8) (bs : List UInt8) (w : World) (hs : Sl w (some ad) n c (b0 :: b1 :: b2 :: b3 :: bs)) (hn : n ≤ 140737488351232) (T : Nat) (hT : 256 * b0.toNat + b1.toNat = T) (h1 : 1 ≤ T) (h2 : T ≤ 8192) (x2 : b2.toNat + b0.toNat = 255) (x3 : ¬ b3.toNat + b1.toNat = 255) :
    Calls Tryz.prog 116 #[.slice (some ad) n c] w fun e w' => e = .returned (.tuple #[.slice none 0 0, .int .i64 0, .int .i64 22]) ∧ Below w.heap.size w w' := by
  have hcap := hs.cap
  have hlen := hs.len
  obtain ⟨h4, _⟩ := first_cells hs
  have c0 := fun w' (hw : Grows w w') => (first_cells (hs.grow hw)).2.1
  have c1 := fun w' (hw : Grows w w') => (first_cells (hs.grow hw)).2.2.1
  have c2 := (first_cells hs).2.2.2.1
  have c3 := (first_cells hs).2.2.2.2
  have h4' : ((n : Int) < 4) = False := by simp; omega
  have i0 : (0 : Int) < (n : Int) := by omega
  have i1 : (1 : Int) < (n : Int) := by omega
  have i0' : 0 < n := by omega
  have i1' : 1 < n := by omega
  have i2' : 2 < n := by omega
  have i3' : 3 < n := by omega
  have i2 : (2 : Int) < (n : Int) := by omega
  have i3 : (3 : Int) < (n : Int) := by omega
  have HS := Lib.hid hs
  have HL := Lib.hid hlen
  have p0 := b0.toNat_lt
  have p1 := b1.toNat_lt
  have p2 := b2.toNat_lt
  have p3 := b3.toNat_lt
  clear hs hlen
  have hz : sizeN (T : Int) = (T : Int) + 8 := by unfold sizeN; rw [if_pos (by omega)]
  have hz0 : ((T : Int) + 8 == 0) = false := by simp; omega
  have he2 : ((b2.toNat : Int) == 255 - (b0.toNat : Int)) = true := by simp; omega
  have he3 : ((b3.toNat : Int) == 255 - (b1.toNat : Int)) = false := by simp; omega
  have he4 : ((b3.toNat : Int) != 255 - (b1.toNat : Int)) = true := by simp [bne]; omega
  have w0 : IntKind.i64.wrap (b0.toNat : Int) = (b0.toNat : Int) := IntWalk.i64_in _ (by omega)
  have w1 : IntKind.i64.wrap (b1.toNat : Int) = (b1.toNat : Int) := IntWalk.i64_in _ (by omega)
  have w2 : IntKind.i64.wrap (256 * (b0.toNat : Int)) = 256 * (b0.toNat : Int) := IntWalk.i64_in _ (by omega)
  have w3 : IntKind.i64.wrap (256 * (b0.toNat : Int) + (b1.toNat : Int)) = (T : Int) := (IntWalk.i64_in _ (by omega)).trans (by omega)
  have q1 : (T : Int).tdiv 256 = (b0.toNat : Int) := by rw [Int.tdiv_eq_ediv_of_nonneg (by omega)]; omega
  have q2 : (T : Int).tmod 256 = (b1.toNat : Int) := by rw [Int.tmod_eq_emod_of_nonneg (by omega)]; omega
  have hTb : T < 65536 := by omega
  generalize b0.toNat = m0 at *
  generalize b1.toNat = m1 at *
  generalize b2.toNat = m2 at *
  generalize b3.toNat = m3 at *
  have HT := Lib.hid hT
  clear hT
  go_enter Tryz.func116, Tryz.ntmps116
  go_wp2_with (fail)
  refine q_region (by kernel_rfl) (by kernel_rfl) ?_
  iterate 11 (first
    | (refine q_op' (v := ?_) (a' := ?_) (by rfl) ?_ ?_ ?_
       rotate_left 2
       · intro w' hC
         go_simp
         try with_reducible rfl
       · simp only [Act.put, List.setIfInBounds_toArray, List.set_cons_zero, List.set_cons_succ]
         try rfl)
    | (refine q_skip' (a' := ?_) (by rfl) ?_ ?_
       rotate_left 1
       · simp only [Act.put, List.setIfInBounds_toArray, List.set_cons_zero, List.set_cons_succ]
         try rfl))
  refine wpQuiet_nil ?_
  intro w4 hC
  have HG4 := Lib.hid (show Grows w w4 from hC)
  have c0 := c0 w4 hC
  have c1 := c1 w4 hC
  have c2 := (hC.cell (p := { block := ad.block, off := ad.off + 2 }) (by have := World.block_lt_of_cell? w _ c2; exact this)).trans c2
  have c3 := (hC.cell (p := { block := ad.block, off := ad.off + 3 }) (by have := World.block_lt_of_cell? w _ c3; exact this)).trans c3
  clear hC
  go_wp2_with (fail)
  refine (refSize_any _ _ (by omega) (by omega)).mono ?_
  rintro e w5 ⟨rfl, rfl⟩
  go_wp2_with (fail)
  go_ret3
  exact ⟨rfl, HG4.out⟩

set_option maxRecDepth 100000 in
set_option maxHeartbeats 2000000 in
theorem rf_cut (ad : Addr) (n c : Nat) (b0 b1 b2 b3 : UInt8) (bs : List UInt8) (w : World) (hs : Sl w (some ad) n c (b0 :: b1 :: b2 :: b3 :: bs)) (hn : n ≤ 140737488351232) (T : Nat) (hT : 256 * b0.toNat + b1.toNat = T) (h1 : 1 ≤ T) (h2 : T ≤ 8192) (x2 : b2.toNat + b0.toNat = 255) (x3 : b3.toNat + b1.toNat = 255) (h8 : n < T + 8) :
    Calls Tryz.prog 116 #[.slice (some ad) n c] w fun e w' => e = .returned (.tuple #[.slice none 0 0, .int .i64 0, .int .i64 21]) ∧ Below w.heap.size w w' := by
  have hcap := hs.cap
  have hlen := hs.len
  obtain ⟨h4, _⟩ := first_cells hs
  have c0 := fun w' (hw : Grows w w') => (first_cells (hs.grow hw)).2.1
  have c1 := fun w' (hw : Grows w w') => (first_cells (hs.grow hw)).2.2.1
  have c2 := (first_cells hs).2.2.2.1
  have c3 := (first_cells hs).2.2.2.2
  have h4' : ((n : Int) < 4) = False := by simp; omega
  have i0 : (0 : Int) < (n : Int) := by omega
  have i1 : (1 : Int) < (n : Int) := by omega
  have i0' : 0 < n := by omega
  have i1' : 1 < n := by omega
  have i2' : 2 < n := by omega
  have i3' : 3 < n := by omega
  have i2 : (2 : Int) < (n : Int) := by omega
  have i3 : (3 : Int) < (n : Int) := by omega
  have HS := Lib.hid hs
  have HL := Lib.hid hlen
  have p0 := b0.toNat_lt
  have p1 := b1.toNat_lt
  have p2 := b2.toNat_lt
  have p3 := b3.toNat_lt
  clear hs hlen
  have hz : sizeN (T : Int) = (T : Int) + 8 := by unfold sizeN; rw [if_pos (by omega)]
  have hz0 : ((T : Int) + 8 == 0) = false := by simp; omega
  have he2 : ((b2.toNat : Int) == 255 - (b0.toNat : Int)) = true := by simp; omega
  have he3 : ((b3.toNat : Int) == 255 - (b1.toNat : Int)) = true := by simp; omega
  have he4 : ((b3.toNat : Int) != 255 - (b1.toNat : Int)) = false := by simp [bne]; omega
  have hd8 : decide ((n : Int) < (T : Int) + 8) = true := by simp; omega
  have w0 : IntKind.i64.wrap (b0.toNat : Int) = (b0.toNat : Int) := IntWalk.i64_in _ (by omega)
  have w1 : IntKind.i64.wrap (b1.toNat : Int) = (b1.toNat : Int) := IntWalk.i64_in _ (by omega)
  have w2 : IntKind.i64.wrap (256 * (b0.toNat : Int)) = 256 * (b0.toNat : Int) := IntWalk.i64_in _ (by omega)
  have w3 : IntKind.i64.wrap (256 * (b0.toNat : Int) + (b1.toNat : Int)) = (T : Int) := (IntWalk.i64_in _ (by omega)).trans (by omega)
  have q1 : (T : Int).tdiv 256 = (b0.toNat : Int) := by rw [Int.tdiv_eq_ediv_of_nonneg (by omega)]; omega
  have q2 : (T : Int).tmod 256 = (b1.toNat : Int) := by rw [Int.tmod_eq_emod_of_nonneg (by omega)]; omega
  have hTb : T < 65536 := by omega
  generalize b0.toNat = m0 at *
  generalize b1.toNat = m1 at *
  generalize b2.toNat = m2 at *
  generalize b3.toNat = m3 at *
  have HT := Lib.hid hT
  clear hT
  go_enter Tryz.func116, Tryz.ntmps116
  go_wp2_with (fail)
  refine q_region (by kernel_rfl) (by kernel_rfl) ?_
  iterate 11 (first
    | (refine q_op' (v := ?_) (a' := ?_) (by rfl) ?_ ?_ ?_
       rotate_left 2
       · intro w' hC
         go_simp
         try with_reducible rfl
       · simp only [Act.put, List.setIfInBounds_toArray, List.set_cons_zero, List.set_cons_succ]
         try rfl)
    | (refine q_skip' (a' := ?_) (by rfl) ?_ ?_
       rotate_left 1
       · simp only [Act.put, List.setIfInBounds_toArray, List.set_cons_zero, List.set_cons_succ]
         try rfl))
  refine wpQuiet_nil ?_
  intro w4 hC
  have HG4 := Lib.hid (show Grows w w4 from hC)
  have c0 := c0 w4 hC
  have c1 := c1 w4 hC
  have c2 := (hC.cell (p := { block := ad.block, off := ad.off + 2 }) (by have := World.block_lt_of_cell? w _ c2; exact this)).trans c2
  have c3 := (hC.cell (p := { block := ad.block, off := ad.off + 3 }) (by have := World.block_lt_of_cell? w _ c3; exact this)).trans c3
  clear hC
  go_wp2_with (fail)
  refine (refSize_any _ _ (by omega) (by omega)).mono ?_
  rintro e w5 ⟨rfl, rfl⟩
  go_wp2_with (fail)
  go_ret3
  exact ⟨rfl, HG4.out⟩

set_option maxRecDepth 100000 in
set_option maxHeartbeats 2000000 in
theorem rf_bad (ad : Addr) (n c : Nat) (b0 b1 b2 b3 : UInt8) (bs : List UInt8) (w : World) (hs : Sl w (some ad) n c (b0 :: b1 :: b2 :: b3 :: bs)) (hn : n ≤ 140737488351232) (T : Nat) (hT : 256 * b0.toNat + b1.toNat = T) (h1 : 1 ≤ T) (h2 : T ≤ 8192) (x2 : b2.toNat + b0.toNat = 255) (x3 : b3.toNat + b1.toNat = 255) (h8 : T + 8 ≤ n) (x : List UInt8) (hx : (b0 :: b1 :: b2 :: b3 :: bs).take (T + 4) = b0 :: b1 :: b2 :: b3 :: x) (hq : putB x ≠ (b0 :: b1 :: b2 :: b3 :: bs).take (T + 8)) :
    Calls Tryz.prog 116 #[.slice (some ad) n c] w fun e w' => e = .returned (.tuple #[.slice none 0 0, .int .i64 ((T + 8 : Nat) : Int), .int .i64 22]) ∧ Below w.heap.size w w' := by
  have hcap := hs.cap
  have hlen := hs.len
  obtain ⟨h4, _⟩ := first_cells hs
  have c0 := fun w' (hw : Grows w w') => (first_cells (hs.grow hw)).2.1
  have c1 := fun w' (hw : Grows w w') => (first_cells (hs.grow hw)).2.2.1
  have c2 := (first_cells hs).2.2.2.1
  have c3 := (first_cells hs).2.2.2.2
  have h4' : ((n : Int) < 4) = False := by simp; omega
  have i0 : (0 : Int) < (n : Int) := by omega
  have i1 : (1 : Int) < (n : Int) := by omega
  have i0' : 0 < n := by omega
  have i1' : 1 < n := by omega
  have i2' : 2 < n := by omega
  have i3' : 3 < n := by omega
  have i2 : (2 : Int) < (n : Int) := by omega
  have i3 : (3 : Int) < (n : Int) := by omega
  have HS := Lib.hid hs
  have HL := Lib.hid hlen
  have p0 := b0.toNat_lt
  have p1 := b1.toNat_lt
  have p2 := b2.toNat_lt
  have p3 := b3.toNat_lt
  clear hs hlen
  have hz : sizeN (T : Int) = (T : Int) + 8 := by unfold sizeN; rw [if_pos (by omega)]
  have hz0 : ((T : Int) + 8 == 0) = false := by simp; omega
  have he2 : ((b2.toNat : Int) == 255 - (b0.toNat : Int)) = true := by simp; omega
  have he3 : ((b3.toNat : Int) == 255 - (b1.toNat : Int)) = true := by simp; omega
  have he4 : ((b3.toNat : Int) != 255 - (b1.toNat : Int)) = false := by simp [bne]; omega
  have hd8 : decide ((n : Int) < (T : Int) + 8) = false := by simp; omega
  have l4 : (4 : Int) ≤ (T : Int) + 4 := by omega
  have l5 : (T : Int) + 4 ≤ (c : Int) := by omega
  have l6 : ¬ c = 4 := by omega
  have hxl : x.length = T := by have h := congrArg List.length hx; rw [List.length_take, HL.out] at h; simp only [List.length_cons] at h; omega
  have hp := HS.out.part (k := 4) (m := T + 4) (by omega) (by omega) l6
  rw [Addr.add_succ' ad 3, hx] at hp
  have hp2 : Sl w (some { block := ad.block, off := ad.off + 4 }) (T + 4 - 4) (c - 4) x := hp
  have HP := Lib.hid hp2
  obtain ⟨E, hE⟩ : ∃ E, E = T + 8 := ⟨_, rfl⟩
  have K8 : Hid (IntKind.i64.wrap ((T : Int) + 8) = (E : Int)) := (IntWalk.i64_in _ (by have := b0.toNat_lt; have := b1.toNat_lt; omega)).trans (by omega)
  have HLB : Hid ((0 : Int) ≤ (E : Int) ∧ (E : Int) ≤ (c : Int)) := ⟨by omega, by omega⟩
  have HE := Lib.hid hE
  clear hE
  have HXL := Lib.hid hxl
  have H8 := Lib.hid h8
  clear hp hp2 hxl h8
  have w0 : IntKind.i64.wrap (b0.toNat : Int) = (b0.toNat : Int) := IntWalk.i64_in _ (by omega)
  have w1 : IntKind.i64.wrap (b1.toNat : Int) = (b1.toNat : Int) := IntWalk.i64_in _ (by omega)
  have w2 : IntKind.i64.wrap (256 * (b0.toNat : Int)) = 256 * (b0.toNat : Int) := IntWalk.i64_in _ (by omega)
  have w3 : IntKind.i64.wrap (256 * (b0.toNat : Int) + (b1.toNat : Int)) = (T : Int) := (IntWalk.i64_in _ (by omega)).trans (by omega)
  have q1 : (T : Int).tdiv 256 = (b0.toNat : Int) := by rw [Int.tdiv_eq_ediv_of_nonneg (by omega)]; omega
  have q2 : (T : Int).tmod 256 = (b1.toNat : Int) := by rw [Int.tmod_eq_emod_of_nonneg (by omega)]; omega
  have hTb : T < 65536 := by omega
  generalize b0.toNat = m0 at *
  generalize b1.toNat = m1 at *
  generalize b2.toNat = m2 at *
  generalize b3.toNat = m3 at *
  have HT := Lib.hid hT
  clear hT
  go_enter Tryz.func116, Tryz.ntmps116
  go_wp2_with (fail)
  refine q_region (by kernel_rfl) (by kernel_rfl) ?_
  iterate 11 (first
    | (refine q_op' (v := ?_) (a' := ?_) (by rfl) ?_ ?_ ?_
       rotate_left 2
       · intro w' hC
         go_simp
         try with_reducible rfl
       · simp only [Act.put, List.setIfInBounds_toArray, List.set_cons_zero, List.set_cons_succ]
         try rfl)
    | (refine q_skip' (a' := ?_) (by rfl) ?_ ?_
       rotate_left 1
       · simp only [Act.put, List.setIfInBounds_toArray, List.set_cons_zero, List.set_cons_succ]
         try rfl))
  refine wpQuiet_nil ?_
  intro w4 hC
  have HG4 := Lib.hid (show Grows w w4 from hC)
  have c0 := c0 w4 hC
  have c1 := c1 w4 hC
  have c2 := (hC.cell (p := { block := ad.block, off := ad.off + 2 }) (by have := World.block_lt_of_cell? w _ c2; exact this)).trans c2
  have c3 := (hC.cell (p := { block := ad.block, off := ad.off + 3 }) (by have := World.block_lt_of_cell? w _ c3; exact this)).trans c3
  clear hC
  go_wp2_with (fail)
  refine (refSize_any _ _ (by omega) (by omega)).mono ?_
  rintro e w5 ⟨rfl, rfl⟩
  have hq2 : putB x ≠ (b0 :: b1 :: b2 :: b3 :: bs).take E := by rw [HE.out]; exact hq
  have HQ := Lib.hid hq2
  clear hq hq2
  go_wp2_with (first
    | (at_builtin
       refine list_append_sl rfl (.tmp 48) (.tmp 52) rfl rfl (owned_none w4) (A := some { block := ad.block, off := ad.off + 4 }) (m := T + 4 - 4) (c := c - 4) rfl (HP.out.grow (Grows.trans HG4.out (grows_alloc _ _))) T (by omega) x rfl (by omega) (le_alloc _ _) ?_
       intro A6 c6 w6 hown6 hb6
       have HX6 := Lib.hid (Sl.owned hown6)
       have HO6 := Lib.hid (owned_from hown6 HG4.out.size)
       have HG6 := Lib.hid (Grows.trans HG4.out (Below.trans ((Below.refl _ w4).alloc (Nat.le_refl _) _) hb6))
       clear hown6 hb6))
  have HF6 := Lib.hid (HS.out.grow HG6.out)
  refine wp_region_facts (E := Grows) [valFact (.slice A6 T c6), slFact (putB x), valFact (.string ⟨(putB x).toArray⟩), valFact (.slice (some ad) n c), valFact (.int .i64 (T : Int)), valFact (.int .i64 (E : Int)), valFact (.slice (some ad) E c), valFact (.string ⟨((b0 :: b1 :: b2 :: b3 :: bs).take E).toArray⟩), valFact (.bool true)] (by kernel_rfl) (by kernel_rfl) (fun _ _ _ => Grows.trans) (grows_drew _) ?_
  refine f_val (.slice A6 T c6) (by rfl) ?_ ?_
  · intro w' hC; clear hC; go_simp
  simp only [Act.put, List.setIfInBounds_toArray, List.set_cons_zero, List.set_cons_succ]
  refine f_new (putB x) 109 #[.slice A6 T c6] (by rfl) (by intro w' hC; clear hC; go_simp) ?_ ?_
  · intro w' hC _; exact refPut_any A6 T c6 x w' (HX6.out.grow hC) (by unfold maxLen; omega)
  intro A7 c7
  simp only [Act.put, List.setIfInBounds_toArray, List.set_cons_zero, List.set_cons_succ]
  refine f_known (.string ⟨(putB x).toArray⟩) (by rfl) ?_ ?_
  · intro w' hC hk; exact run_op_string rfl rfl (Known.get hk 0 rfl (by rfl))
  simp only [Act.put, List.setIfInBounds_toArray, List.set_cons_zero, List.set_cons_succ]
  refine f_val (.slice (some ad) n c) (by rfl) ?_ ?_
  · intro w' hC; clear hC; go_simp
  simp only [Act.put, List.setIfInBounds_toArray, List.set_cons_zero, List.set_cons_succ]
  refine f_val (.int .i64 (T : Int)) (by rfl) ?_ ?_
  · intro w' hC; clear hC; go_simp
  simp only [Act.put, List.setIfInBounds_toArray, List.set_cons_zero, List.set_cons_succ]
  refine f_val (.int .i64 (E : Int)) (by rfl) ?_ ?_
  · intro w' hC; have hk8 := K8.out; clear hC; go_simp
  simp only [Act.put, List.setIfInBounds_toArray, List.set_cons_zero, List.set_cons_succ]
  refine f_val (.slice (some ad) E c) (by rfl) ?_ ?_
  · intro w' hC; have hlb := HLB.out; obtain ⟨l0, l1⟩ := hlb; clear hC; go_simp
  simp only [Act.put, List.setIfInBounds_toArray, List.set_cons_zero, List.set_cons_succ]
  refine f_known (.string ⟨((b0 :: b1 :: b2 :: b3 :: bs).take E).toArray⟩) (by rfl) ?_ ?_
  · intro w' hC _; exact run_op_string rfl rfl ((HF6.out.grow hC).first (by have h1 := HE.out; have h2 := H8.out; omega))
  simp only [Act.put, List.setIfInBounds_toArray, List.set_cons_zero, List.set_cons_succ]
  refine f_val (.bool true) (by rfl) ?_ ?_
  · intro w' hC; have hq := HQ.out; clear hC; go_simp
  simp only [Act.put, List.setIfInBounds_toArray, List.set_cons_zero, List.set_cons_succ]
  intro w9 hC _
  have HCw9 := Lib.hid hC
  clear hC
  go_wp2_with (fail)
  go_ret3
  exact ⟨rfl, Grows.trans HG6.out HCw9.out⟩

set_option maxRecDepth 100000 in
set_option maxHeartbeats 2000000 in
theorem rf_ok (ad : Addr) (n c : Nat) (b0 b1 b2 b3 : UInt8) (bs : List UInt8) (w : World) (hs : Sl w (some ad) n c (b0 :: b1 :: b2 :: b3 :: bs)) (hn : n ≤ 140737488351232) (T : Nat) (hT : 256 * b0.toNat + b1.toNat = T) (h1 : 1 ≤ T) (h2 : T ≤ 8192) (x2 : b2.toNat + b0.toNat = 255) (x3 : b3.toNat + b1.toNat = 255) (h8 : T + 8 ≤ n) (x : List UInt8) (hx : (b0 :: b1 :: b2 :: b3 :: bs).take (T + 4) = b0 :: b1 :: b2 :: b3 :: x) (hq : putB x = (b0 :: b1 :: b2 :: b3 :: bs).take (T + 8)) :
    Calls Tryz.prog 116 #[.slice (some ad) n c] w fun e w' => ∃ A' c', e = .returned (.tuple #[.slice A' T c', .int .i64 ((T + 8 : Nat) : Int), .int .i64 0]) ∧ w'.ownsRow w.heap.size 5 1 (.slice A' T c') T (x.map byteV) ∧ Below w.heap.size w w' := by
  have hcap := hs.cap
  have hlen := hs.len
  obtain ⟨h4, _⟩ := first_cells hs
  have c0 := fun w' (hw : Grows w w') => (first_cells (hs.grow hw)).2.1
  have c1 := fun w' (hw : Grows w w') => (first_cells (hs.grow hw)).2.2.1
  have c2 := (first_cells hs).2.2.2.1
  have c3 := (first_cells hs).2.2.2.2
  have h4' : ((n : Int) < 4) = False := by simp; omega
  have i0 : (0 : Int) < (n : Int) := by omega
  have i1 : (1 : Int) < (n : Int) := by omega
  have i0' : 0 < n := by omega
  have i1' : 1 < n := by omega
  have i2' : 2 < n := by omega
  have i3' : 3 < n := by omega
  have i2 : (2 : Int) < (n : Int) := by omega
  have i3 : (3 : Int) < (n : Int) := by omega
  have HS := Lib.hid hs
  have HL := Lib.hid hlen
  have p0 := b0.toNat_lt
  have p1 := b1.toNat_lt
  have p2 := b2.toNat_lt
  have p3 := b3.toNat_lt
  clear hs hlen
  have hz : sizeN (T : Int) = (T : Int) + 8 := by unfold sizeN; rw [if_pos (by omega)]
  have hz0 : ((T : Int) + 8 == 0) = false := by simp; omega
  have he2 : ((b2.toNat : Int) == 255 - (b0.toNat : Int)) = true := by simp; omega
  have he3 : ((b3.toNat : Int) == 255 - (b1.toNat : Int)) = true := by simp; omega
  have he4 : ((b3.toNat : Int) != 255 - (b1.toNat : Int)) = false := by simp [bne]; omega
  have hd8 : decide ((n : Int) < (T : Int) + 8) = false := by simp; omega
  have l4 : (4 : Int) ≤ (T : Int) + 4 := by omega
  have l5 : (T : Int) + 4 ≤ (c : Int) := by omega
  have l6 : ¬ c = 4 := by omega
  have hxl : x.length = T := by have h := congrArg List.length hx; rw [List.length_take, HL.out] at h; simp only [List.length_cons] at h; omega
  have hp := HS.out.part (k := 4) (m := T + 4) (by omega) (by omega) l6
  rw [Addr.add_succ' ad 3, hx] at hp
  have hp2 : Sl w (some { block := ad.block, off := ad.off + 4 }) (T + 4 - 4) (c - 4) x := hp
  have HP := Lib.hid hp2
  obtain ⟨E, hE⟩ : ∃ E, E = T + 8 := ⟨_, rfl⟩
  have K8 : Hid (IntKind.i64.wrap ((T : Int) + 8) = (E : Int)) := (IntWalk.i64_in _ (by have := b0.toNat_lt; have := b1.toNat_lt; omega)).trans (by omega)
  have HLB : Hid ((0 : Int) ≤ (E : Int) ∧ (E : Int) ≤ (c : Int)) := ⟨by omega, by omega⟩
  have HE := Lib.hid hE
  clear hE
  have HXL := Lib.hid hxl
  have H8 := Lib.hid h8
  clear hp hp2 hxl h8
  have w0 : IntKind.i64.wrap (b0.toNat : Int) = (b0.toNat : Int) := IntWalk.i64_in _ (by omega)
  have w1 : IntKind.i64.wrap (b1.toNat : Int) = (b1.toNat : Int) := IntWalk.i64_in _ (by omega)
  have w2 : IntKind.i64.wrap (256 * (b0.toNat : Int)) = 256 * (b0.toNat : Int) := IntWalk.i64_in _ (by omega)
  have w3 : IntKind.i64.wrap (256 * (b0.toNat : Int) + (b1.toNat : Int)) = (T : Int) := (IntWalk.i64_in _ (by omega)).trans (by omega)
  have q1 : (T : Int).tdiv 256 = (b0.toNat : Int) := by rw [Int.tdiv_eq_ediv_of_nonneg (by omega)]; omega
  have q2 : (T : Int).tmod 256 = (b1.toNat : Int) := by rw [Int.tmod_eq_emod_of_nonneg (by omega)]; omega
  have hTb : T < 65536 := by omega
  generalize b0.toNat = m0 at *
  generalize b1.toNat = m1 at *
  generalize b2.toNat = m2 at *
  generalize b3.toNat = m3 at *
  have HT := Lib.hid hT
  clear hT
  go_enter Tryz.func116, Tryz.ntmps116
  go_wp2_with (fail)
  refine q_region (by kernel_rfl) (by kernel_rfl) ?_
  iterate 11 (first
    | (refine q_op' (v := ?_) (a' := ?_) (by rfl) ?_ ?_ ?_
       rotate_left 2
       · intro w' hC
         go_simp
         try with_reducible rfl
       · simp only [Act.put, List.setIfInBounds_toArray, List.set_cons_zero, List.set_cons_succ]
         try rfl)
    | (refine q_skip' (a' := ?_) (by rfl) ?_ ?_
       rotate_left 1
       · simp only [Act.put, List.setIfInBounds_toArray, List.set_cons_zero, List.set_cons_succ]
         try rfl))
  refine wpQuiet_nil ?_
  intro w4 hC
  have HG4 := Lib.hid (show Grows w w4 from hC)
  have c0 := c0 w4 hC
  have c1 := c1 w4 hC
  have c2 := (hC.cell (p := { block := ad.block, off := ad.off + 2 }) (by have := World.block_lt_of_cell? w _ c2; exact this)).trans c2
  have c3 := (hC.cell (p := { block := ad.block, off := ad.off + 3 }) (by have := World.block_lt_of_cell? w _ c3; exact this)).trans c3
  clear hC
  go_wp2_with (fail)
  refine (refSize_any _ _ (by omega) (by omega)).mono ?_
  rintro e w5 ⟨rfl, rfl⟩
  have hq2 : putB x = (b0 :: b1 :: b2 :: b3 :: bs).take E := by rw [HE.out]; exact hq
  have HQ := Lib.hid hq2
  clear hq hq2
  go_wp2_with (first
    | (at_builtin
       refine list_append_sl rfl (.tmp 48) (.tmp 52) rfl rfl (owned_none w4) (A := some { block := ad.block, off := ad.off + 4 }) (m := T + 4 - 4) (c := c - 4) rfl (HP.out.grow (Grows.trans HG4.out (grows_alloc _ _))) T (by omega) x rfl (by omega) (le_alloc _ _) ?_
       intro A6 c6 w6 hown6 hb6
       have HX6 := Lib.hid (Sl.owned hown6)
       have HO6 := Lib.hid (owned_from hown6 HG4.out.size)
       have HG6 := Lib.hid (Grows.trans HG4.out (Below.trans ((Below.refl _ w4).alloc (Nat.le_refl _) _) hb6))
       clear hown6 hb6))
  have HF6 := Lib.hid (HS.out.grow HG6.out)
  refine wp_region_facts (E := Grows) [valFact (.slice A6 T c6), slFact (putB x), valFact (.string ⟨(putB x).toArray⟩), valFact (.slice (some ad) n c), valFact (.int .i64 (T : Int)), valFact (.int .i64 (E : Int)), valFact (.slice (some ad) E c), valFact (.string ⟨((b0 :: b1 :: b2 :: b3 :: bs).take E).toArray⟩), valFact (.bool false)] (by kernel_rfl) (by kernel_rfl) (fun _ _ _ => Grows.trans) (grows_drew _) ?_
  refine f_val (.slice A6 T c6) (by rfl) ?_ ?_
  · intro w' hC; clear hC; go_simp
  simp only [Act.put, List.setIfInBounds_toArray, List.set_cons_zero, List.set_cons_succ]
  refine f_new (putB x) 109 #[.slice A6 T c6] (by rfl) (by intro w' hC; clear hC; go_simp) ?_ ?_
  · intro w' hC _; exact refPut_any A6 T c6 x w' (HX6.out.grow hC) (by unfold maxLen; omega)
  intro A7 c7
  simp only [Act.put, List.setIfInBounds_toArray, List.set_cons_zero, List.set_cons_succ]
  refine f_known (.string ⟨(putB x).toArray⟩) (by rfl) ?_ ?_
  · intro w' hC hk; exact run_op_string rfl rfl (Known.get hk 0 rfl (by rfl))
  simp only [Act.put, List.setIfInBounds_toArray, List.set_cons_zero, List.set_cons_succ]
  refine f_val (.slice (some ad) n c) (by rfl) ?_ ?_
  · intro w' hC; clear hC; go_simp
  simp only [Act.put, List.setIfInBounds_toArray, List.set_cons_zero, List.set_cons_succ]
  refine f_val (.int .i64 (T : Int)) (by rfl) ?_ ?_
  · intro w' hC; clear hC; go_simp
  simp only [Act.put, List.setIfInBounds_toArray, List.set_cons_zero, List.set_cons_succ]
  refine f_val (.int .i64 (E : Int)) (by rfl) ?_ ?_
  · intro w' hC; have hk8 := K8.out; clear hC; go_simp
  simp only [Act.put, List.setIfInBounds_toArray, List.set_cons_zero, List.set_cons_succ]
  refine f_val (.slice (some ad) E c) (by rfl) ?_ ?_
  · intro w' hC; have hlb := HLB.out; obtain ⟨l0, l1⟩ := hlb; clear hC; go_simp
  simp only [Act.put, List.setIfInBounds_toArray, List.set_cons_zero, List.set_cons_succ]
  refine f_known (.string ⟨((b0 :: b1 :: b2 :: b3 :: bs).take E).toArray⟩) (by rfl) ?_ ?_
  · intro w' hC _; exact run_op_string rfl rfl ((HF6.out.grow hC).first (by have h1 := HE.out; have h2 := H8.out; omega))
  simp only [Act.put, List.setIfInBounds_toArray, List.set_cons_zero, List.set_cons_succ]
  refine f_val (.bool false) (by rfl) ?_ ?_
  · intro w' hC; have hq := HQ.out; clear hC; go_simp
  simp only [Act.put, List.setIfInBounds_toArray, List.set_cons_zero, List.set_cons_succ]
  intro w9 hC _
  have HCw9 := Lib.hid hC
  clear hC
  go_wp2_with (fail)
  go_ret3
  exact ⟨A6, c6, rfl, owned_grow HO6.out HCw9.out, Grows.trans HG6.out HCw9.out⟩

end Go.Proofs.YtdkpbphgaenlnaaGreat

/-
  The answer's First, in one word: the body, its frame's length and what is wrong, as of frame.First.
-/
namespace Go.Proofs.YtdkpbphgaenlnaaGreat
open Go.RowKit

theorem head_like (b0 b1 b2 b3 : UInt8) (T : Nat) (hT : 256 * b0.toNat + b1.toNat = T) : [b0, b1, b2, b3] = headB T ↔ b2.toNat + b0.toNat = 255 ∧ b3.toNat + b1.toNat = 255 := by
  have l0 := b0.toNat_lt
  have l1 := b1.toNat_lt
  have l2 := b2.toNat_lt
  have l3 := b3.toNat_lt
  unfold headB
  simp only [List.cons.injEq, and_true]
  constructor
  · rintro ⟨_, _, h2, h3⟩
    have h2 := congrArg UInt8.toNat h2
    have h3 := congrArg UInt8.toNat h3
    rw [UInt8.toNat_ofNat'] at h2 h3
    omega
  · rintro ⟨h2, h3⟩
    refine ⟨?_, ?_, ?_, ?_⟩ <;> apply UInt8.toNat_inj.1 <;> rw [UInt8.toNat_ofNat'] <;> omega

theorem refFirst_own (A : Option Addr) (n c : Nat) (bs : List UInt8) (w : World) (hs : Sl w A n c bs) (hn : n ≤ 140737488351232) :
    Calls Tryz.prog 116 #[.slice A n c] w fun e w' => ∃ A' m c', e = .returned (.tuple #[.slice A' m c', .int .i64 ((firstB bs).2.1 : Nat), .int .i64 ((firstB bs).2.2 : Nat)]) ∧ w'.ownsRow w.heap.size 5 1 (.slice A' m c') m ((firstB bs).1.map byteV) ∧ Below w.heap.size w w' := by
  have hl := hs.len
  by_cases h4 : n < 4
  · refine (rf_short A n c w h4).mono ?_
    rintro e w' ⟨rfl, hb⟩
    have hf : firstB bs = ([], 0, 21) := by unfold firstB; rw [if_pos (by omega)]
    rw [hf]
    exact ⟨none, 0, 0, rfl, World.ownsRow_nil _ _ _ _, hb⟩
  · match bs, hl with
    | [], hl => simp at hl; omega
    | [_], hl => simp at hl; omega
    | [_, _], hl => simp at hl; omega
    | [_, _, _], hl => simp at hl; omega
    | b0 :: b1 :: b2 :: b3 :: bs, hl =>
      obtain ⟨ad, rfl⟩ : ∃ ad, A = some ad := by
        obtain ⟨ad, h, _⟩ := hs.bytes.spot (k := 0) (by omega)
        exact ⟨ad, h⟩
      have ht : toldN (b0 :: b1 :: b2 :: b3 :: bs) = 256 * b0.toNat + b1.toNat := rfl
      have hlike := head_like b0 b1 b2 b3 _ rfl
      generalize hT : 256 * b0.toNat + b1.toNat = T at *
      have hk : (b0 :: b1 :: b2 :: b3 :: bs).take 4 = [b0, b1, b2, b3] := rfl
      have h4' : ¬ (b0 :: b1 :: b2 :: b3 :: bs).length < 4 := by omega
      by_cases hr : 1 ≤ T ∧ T ≤ 8192
      · by_cases hm : [b0, b1, b2, b3] = headB T
        · have hcond : ¬ (¬ (1 ≤ T ∧ T ≤ 8192) ∨ [b0, b1, b2, b3] ≠ headB T) := fun h => h.elim (fun h => h hr) (fun h => h hm)
          obtain ⟨m2, m3⟩ := hlike.1 hm
          by_cases h8 : n < T + 8
          · refine (rf_cut ad n c b0 b1 b2 b3 bs w hs hn T hT hr.1 hr.2 m2 m3 h8).mono ?_
            rintro e w' ⟨rfl, hb⟩
            have hf : firstB (b0 :: b1 :: b2 :: b3 :: bs) = ([], 0, 21) := by unfold firstB; rw [if_neg h4', ht, hk, if_neg hcond, if_pos (by omega)]
            rw [hf]
            exact ⟨none, 0, 0, rfl, World.ownsRow_nil _ _ _ _, hb⟩
          · have h8' : ¬ (b0 :: b1 :: b2 :: b3 :: bs).length < T + 8 := by omega
            have hxe : (b0 :: b1 :: b2 :: b3 :: bs).take (T + 4) = b0 :: b1 :: b2 :: b3 :: bs.take T := rfl
            have hxd : ((b0 :: b1 :: b2 :: b3 :: bs).drop 4).take T = bs.take T := rfl
            have hxl : (bs.take T).length = T := by rw [List.length_take]; simp only [List.length_cons] at hl; omega
            have hput : putB (bs.take T) = (b0 :: b1 :: b2 :: b3 :: bs).take (T + 4) ++ tailB ((b0 :: b1 :: b2 :: b3 :: bs).take (T + 4)) := by
              unfold putB
              rw [hxl, if_pos hr]
              unfold frameB
              rw [hxl, ← hm, hxe]
              rfl
            have hsplit : (b0 :: b1 :: b2 :: b3 :: bs).take (T + 8) = (b0 :: b1 :: b2 :: b3 :: bs).take (T + 4) ++ ((b0 :: b1 :: b2 :: b3 :: bs).drop (T + 4)).take 4 := by
              rw [← List.take_add]
            by_cases hx : ((b0 :: b1 :: b2 :: b3 :: bs).drop (T + 4)).take 4 = tailB ((b0 :: b1 :: b2 :: b3 :: bs).take (T + 4))
            · refine (rf_ok ad n c b0 b1 b2 b3 bs w hs hn T hT hr.1 hr.2 m2 m3 (by omega) (bs.take T) hxe (by rw [hput, hsplit, hx])).mono ?_
              rintro e w' ⟨A', c', rfl, hs', hb⟩
              have hf : firstB (b0 :: b1 :: b2 :: b3 :: bs) = (bs.take T, T + 8, 0) := by
                unfold firstB; rw [if_neg h4', ht, hk, if_neg hcond, if_neg h8', if_neg (fun h => h hx), hxd]
              rw [hf]
              exact ⟨A', T, c', rfl, hs', hb⟩
            · refine (rf_bad ad n c b0 b1 b2 b3 bs w hs hn T hT hr.1 hr.2 m2 m3 (by omega) (bs.take T) hxe (fun h => hx ?_)).mono ?_
              · rw [hput, hsplit] at h
                exact (List.append_cancel_left h).symm
              · rintro e w' ⟨rfl, hb⟩
                have hf : firstB (b0 :: b1 :: b2 :: b3 :: bs) = ([], T + 8, 22) := by unfold firstB; rw [if_neg h4', ht, hk, if_neg hcond, if_neg h8', if_pos hx]
                rw [hf]
                exact ⟨none, 0, 0, rfl, World.ownsRow_nil _ _ _ _, hb⟩
        · have hf : firstB (b0 :: b1 :: b2 :: b3 :: bs) = ([], 0, 22) := by unfold firstB; rw [if_neg h4', ht, hk, if_pos (.inr hm)]
          by_cases m2 : b2.toNat + b0.toNat = 255
          · have m3 : ¬ b3.toNat + b1.toNat = 255 := fun h => hm (hlike.2 ⟨m2, h⟩)
            refine (rf_three ad n c b0 b1 b2 b3 bs w hs hn T hT hr.1 hr.2 m2 m3).mono ?_
            rintro e w' ⟨rfl, hb⟩
            rw [hf]
            exact ⟨none, 0, 0, rfl, World.ownsRow_nil _ _ _ _, hb⟩
          · refine (rf_two ad n c b0 b1 b2 b3 bs w hs hn T hT hr.1 hr.2 m2).mono ?_
            rintro e w' ⟨rfl, hb⟩
            rw [hf]
            exact ⟨none, 0, 0, rfl, World.ownsRow_nil _ _ _ _, hb⟩
      · refine (rf_zero ad n c b0 b1 b2 b3 bs w hs hn T hT hr).mono ?_
        rintro e w' ⟨rfl, hb⟩
        have hf : firstB (b0 :: b1 :: b2 :: b3 :: bs) = ([], 0, 22) := by unfold firstB; rw [if_neg h4', ht, if_pos (.inl hr)]
        rw [hf]
        exact ⟨none, 0, 0, rfl, World.ownsRow_nil _ _ _ _, hb⟩
theorem refFirst_any (A : Option Addr) (n c : Nat) (bs : List UInt8) (w : World) (hs : Sl w A n c bs) (hn : n ≤ 140737488351232) :
    Calls Tryz.prog 116 #[.slice A n c] w fun e w' => ∃ A' m c', e = .returned (.tuple #[.slice A' m c', .int .i64 ((firstB bs).2.1 : Nat), .int .i64 ((firstB bs).2.2 : Nat)]) ∧ Sl w' A' m c' (firstB bs).1 ∧ Below w.heap.size w w' :=
  (refFirst_own A n c bs w hs hn).mono fun _ _ ⟨A', m, c', he, ho, hb⟩ => ⟨A', m, c', he, Sl.owned ho, hb⟩
end Go.Proofs.YtdkpbphgaenlnaaGreat
