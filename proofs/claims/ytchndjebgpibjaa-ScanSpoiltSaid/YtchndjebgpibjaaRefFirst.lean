/-
  The walk of the answer's First.
-/
import Derived.Test.YtchndjebgpibjaaRefPut
import Derived.Test.YtchndjebgpibjaaFrameFacts
namespace Go.Proofs.Ytchndjebgpibjaa
open Go.RowKit

theorem rf_short (A : Option Addr) (n c : Nat) (w : World) (h : n < 4) :
    Calls Try.prog 25 #[.slice A n c] w fun e w' => e = .returned (.tuple #[.slice none 0 0, .int .i64 0, .int .i64 21]) ∧ Below w.heap.size w w' := by
  go_enter Try.func25, Try.ntmps25
  go_wp2_with (fail)
  go_ret3
  exact ⟨rfl, Below.refl _ _⟩

set_option maxRecDepth 100000 in
set_option maxHeartbeats 2000000 in
theorem rf_zero (ad : Addr) (n c : Nat) (b0 b1 b2 b3 : UInt8) (bs : List UInt8) (w : World) (hs : Sl w (some ad) n c (b0 :: b1 :: b2 :: b3 :: bs)) (hn : n ≤ 140737488351232) (T : Nat) (hT : 256 * b0.toNat + b1.toNat = T) (h0 : ¬ (1 ≤ T ∧ T ≤ 8192)) :
    Calls Try.prog 25 #[.slice (some ad) n c] w fun e w' => e = .returned (.tuple #[.slice none 0 0, .int .i64 0, .int .i64 22]) ∧ Below w.heap.size w w' := by
  have hcap := hs.cap
  have hlen := hs.len
  obtain ⟨h4, _⟩ := first_cells hs
  have c0 := fun w' (hw : Grows w w') => (first_cells (hs.grow hw)).2.1
  have c1 := fun w' (hw : Grows w w') => (first_cells (hs.grow hw)).2.2.1
  have c2 := (first_cells hs).2.2.2.1
  have c3 := (first_cells hs).2.2.2.2
  have h4' : ((n : Int) < 4) = False := by simp; omega
  have i0 : (0 : Int) < (n : Int) := by omega
  have i1 : (1 : Int) < (n : Int) := by omega
  have i0' : 0 < n := by omega
  have i1' : 1 < n := by omega
  have i2' : 2 < n := by omega
  have i3' : 3 < n := by omega
  have i2 : (2 : Int) < (n : Int) := by omega
  have i3 : (3 : Int) < (n : Int) := by omega
  have HS := Lib.hid hs
  have HL := Lib.hid hlen
  have p0 := b0.toNat_lt
  have p1 := b1.toNat_lt
  have p2 := b2.toNat_lt
  have p3 := b3.toNat_lt
  clear hs hlen
  have hz : sizeN (T : Int) = 0 := by unfold sizeN; rw [if_neg (by omega)]
  have w0 : IntKind.i64.wrap (b0.toNat : Int) = (b0.toNat : Int) := IntWalk.i64_in _ (by omega)
  have w1 : IntKind.i64.wrap (b1.toNat : Int) = (b1.toNat : Int) := IntWalk.i64_in _ (by omega)
  have w2 : IntKind.i64.wrap (256 * (b0.toNat : Int)) = 256 * (b0.toNat : Int) := IntWalk.i64_in _ (by omega)
  have w3 : IntKind.i64.wrap (256 * (b0.toNat : Int) + (b1.toNat : Int)) = (T : Int) := (IntWalk.i64_in _ (by omega)).trans (by omega)
  have q1 : (T : Int).tdiv 256 = (b0.toNat : Int) := by rw [Int.tdiv_eq_ediv_of_nonneg (by omega)]; omega
  have q2 : (T : Int).tmod 256 = (b1.toNat : Int) := by rw [Int.tmod_eq_emod_of_nonneg (by omega)]; omega
  have hTb : T < 65536 := by omega
  generalize b0.toNat = m0 at *
  generalize b1.toNat = m1 at *
  generalize b2.toNat = m2 at *
  generalize b3.toNat = m3 at *
  have HT := Lib.hid hT
  clear hT
  go_enter Try.func25, Try.ntmps25
  go_wp2_with (fail)
  refine q_region (by kernel_rfl) (by kernel_rfl) ?_
  iterate 11 (first
    | (refine q_op' (v := ?_) (a' := ?_) (by rfl) ?_ ?_ ?_
       rotate_left 2
       · intro w' hC
         go_simp
         try with_reducible rfl
       · simp only [Act.put, List.setIfInBounds_toArray, List.set_cons_zero, List.set_cons_succ]
         try rfl)
    | (refine q_skip' (a' := ?_) (by rfl) ?_ ?_
       rotate_left 1
       · simp only [Act.put, List.setIfInBounds_toArray, List.set_cons_zero, List.set_cons_succ]
         try rfl))
  refine wpQuiet_nil ?_
  intro w4 hC
  have HG4 := Lib.hid (show Grows w w4 from hC)
  have c0 := c0 w4 hC
  have c1 := c1 w4 hC
  have c2 := (hC.cell (p := { block := ad.block, off := ad.off + 2 }) (by have := World.block_lt_of_cell? w _ c2; exact this)).trans c2
  have c3 := (hC.cell (p := { block := ad.block, off := ad.off + 3 }) (by have := World.block_lt_of_cell? w _ c3; exact this)).trans c3
  clear hC
  go_wp2_with (fail)
  refine (refSize_any _ _ (by omega) (by omega)).mono ?_
  rintro e w5 ⟨rfl, rfl⟩
  go_wp2_with (fail)
  go_ret3
  exact ⟨rfl, HG4.out⟩

set_option maxRecDepth 100000 in
set_option maxHeartbeats 2000000 in
theorem rf_two (ad : Addr) (n c : Nat) (b0 b1 b2 b3 : UInt8) (bs : List UInt8) (w : World) (hs : Sl w (some ad) n c (b0 :: b1 :: b2 :: b3 :: bs)) (hn : n ≤ 140737488351232) (T : Nat) (hT : 256 * b0.toNat + b1.toNat = T) (h1 : 1 ≤ T) (h2 : T ≤ 8192) (x2 : ¬ b2.toNat + b0.toNat = 255) :
    Calls Try.prog 25 #[.slice (some ad) n c] w fun e w' => e = .returned (.tuple #[.slice none 0 0, .int .i64 0, .int .i64 22]) ∧ Below w.heap.size w w' := by
  have hcap := hs.cap
  have hlen := hs.len
  obtain ⟨h4, _⟩ := first_cells hs
  have c0 := fun w' (hw : Grows w w') => (first_cells (hs.grow hw)).2.1
  have c1 := fun w' (hw : Grows w w') => (first_cells (hs.grow hw)).2.2.1
  have c2 := (first_cells hs).2.2.2.1
  have c3 := (first_cells hs).2.2.2.2
  have h4' : ((n : Int) < 4) = False := by simp; omega
  have i0 : (0 : Int) < (n : Int) := by omega
  have i1 : (1 : Int) < (n : Int) := by omega
  have i0' : 0 < n := by omega
  have i1' : 1 < n := by omega
  have i2' : 2 < n := by omega
  have i3' : 3 < n := by omega
  have i2 : (2 : Int) < (n : Int) := by omega
  have i3 : (3 : Int) < (n : Int) := by omega
  have HS := Lib.hid hs
  have HL := Lib.hid hlen
  have p0 := b0.toNat_lt
  have p1 := b1.toNat_lt
  have p2 := b2.toNat_lt
  have p3 := b3.toNat_lt
  clear hs hlen
  have hz : sizeN (T : Int) = (T : Int) + 8 := by unfold sizeN; rw [if_pos (by omega)]
  have hz0 : ((T : Int) + 8 == 0) = false := by simp; omega
  have he2 : ((b2.toNat : Int) == 255 - (b0.toNat : Int)) = false := by simp; omega
  have w0 : IntKind.i64.wrap (b0.toNat : Int) = (b0.toNat : Int) := IntWalk.i64_in _ (by omega)
  have w1 : IntKind.i64.wrap (b1.toNat : Int) = (b1.toNat : Int) := IntWalk.i64_in _ (by omega)
  have w2 : IntKind.i64.wrap (256 * (b0.toNat : Int)) = 256 * (b0.toNat : Int) := IntWalk.i64_in _ (by omega)
  have w3 : IntKind.i64.wrap (256 * (b0.toNat : Int) + (b1.toNat : Int)) = (T : Int) := (IntWalk.i64_in _ (by omega)).trans (by omega)
  have q1 : (T : Int).tdiv 256 = (b0.toNat : Int) := by rw [Int.tdiv_eq_ediv_of_nonneg (by omega)]; omega
  have q2 : (T : Int).tmod 256 = (b1.toNat : Int) := by rw [Int.tmod_eq_emod_of_nonneg (by omega)]; omega
  have hTb : T < 65536 := by omega
  generalize b0.toNat = m0 at *
  generalize b1.toNat = m1 at *
  generalize b2.toNat = m2 at *
  generalize b3.toNat = m3 at *
  have HT := Lib.hid hT
  clear hT
  go_enter Try.func25, Try.ntmps25
  go_wp2_with (fail)
  refine q_region (by kernel_rfl) (by kernel_rfl) ?_
  iterate 11 (first
    | (refine q_op' (v := ?_) (a' := ?_) (by rfl) ?_ ?_ ?_
       rotate_left 2
       · intro w' hC
         go_simp
         try with_reducible rfl
       · simp only [Act.put, List.setIfInBounds_toArray, List.set_cons_zero, List.set_cons_succ]
         try rfl)
    | (refine q_skip' (a' := ?_) (by rfl) ?_ ?_
       rotate_left 1
       · simp only [Act.put, List.setIfInBounds_toArray, List.set_cons_zero, List.set_cons_succ]
         try rfl))
  refine wpQuiet_nil ?_
  intro w4 hC
  have HG4 := Lib.hid (show Grows w w4 from hC)
  have c0 := c0 w4 hC
  have c1 := c1 w4 hC
  have c2 := (hC.cell (p := { block := ad.block, off := ad.off + 2 }) (by have := World.block_lt_of_cell? w _ c2; exact this)).trans c2
  have c3 := (hC.cell (p := { block := ad.block, off := ad.off + 3 }) (by have := World.block_lt_of_cell? w _ c3; exact this)).trans c3
  clear hC
  go_wp2_with (fail)
  refine (refSize_any _ _ (by omega) (by omega)).mono ?_
  rintro e w5 ⟨rfl, rfl⟩
  go_wp2_with (fail)
  go_ret3
  exact ⟨rfl, HG4.out⟩

set_option maxRecDepth 100000 in
set_option maxHeartbeats 2000000 in
theorem rf_three (ad : Addr) (n c : Nat) (b0 b1 b2 b3 : UInt8) (bs : List UInt8) (w : World) (hs : Sl w (some ad) n c (b0 :: b1 :: b2 :: b3 :: bs)) (hn : n ≤ 140737488351232) (T : Nat) (hT : 256 * b0.toNat + b1.toNat = T) (h1 : 1 ≤ T) (h2 : T ≤ 8192) (x2 : b2.toNat + b0.toNat = 255) (x3 : ¬ b3.toNat + b1.toNat = 255) :
    Calls Try.prog 25 #[.slice (some ad) n c] w fun e w' => e = .returned (.tuple #[.slice none 0 0, .int .i64 0, .int .i64 22]) ∧ Below w.heap.size w w' := by
  have hcap := hs.cap
  have hlen := hs.len
  obtain ⟨h4, _⟩ := first_cells hs
  have c0 := fun w' (hw : Grows w w') => (first_cells (hs.grow hw)).2.1
  have c1 := fun w' (hw : Grows w w') => (first_cells (hs.grow hw)).2.2.1
  have c2 := (first_cells hs).2.2.2.1
  have c3 := (first_cells hs).2.2.2.2
  have h4' : ((n : Int) < 4) = False := by simp; omega
  have i0 : (0 : Int) < (n : Int) := by omega
  have i1 : (1 : Int) < (n : Int) := by omega
  have i0' : 0 < n := by omega
  have i1' : 1 < n := by omega
  have i2' : 2 < n := by omega
  have i3' : 3 < n := by omega
  have i2 : (2 : Int) < (n : Int) := by omega
  have i3 : (3 : Int) < (n : Int) := by omega
  have HS := Lib.hid hs
  have HL := Lib.hid hlen
  have p0 := b0.toNat_lt
  have p1 := b1.toNat_lt
  have p2 := b2.toNat_lt
  have p3 := b3.toNat_lt
  clear hs hlen
  have hz : sizeN (T : Int) = (T : Int) + 8 := by unfold sizeN; rw [if_pos (by omega)]
  have hz0 : ((T : Int) + 8 == 0) = false := by simp; omega
  have he2 : ((b2.toNat : Int) == 255 - (b0.toNat : Int)) = true := by simp; omega
  have he3 : ((b3.toNat : Int) == 255 - (b1.toNat : Int)) = false := by simp; omega
  have he4 : ((b3.toNat : Int) != 255 - (b1.toNat : Int)) = true := by simp [bne]; omega
  have w0 : IntKind.i64.wrap (b0.toNat : Int) = (b0.toNat : Int) := IntWalk.i64_in _ (by omega)
  have w1 : IntKind.i64.wrap (b1.toNat : Int) = (b1.toNat : Int) := IntWalk.i64_in _ (by omega)
  have w2 : IntKind.i64.wrap (256 * (b0.toNat : Int)) = 256 * (b0.toNat : Int) := IntWalk.i64_in _ (by omega)
  have w3 : IntKind.i64.wrap (256 * (b0.toNat : Int) + (b1.toNat : Int)) = (T : Int) := (IntWalk.i64_in _ (by omega)).trans (by omega)
  have q1 : (T : Int).tdiv 256 = (b0.toNat : Int) := by rw [Int.tdiv_eq_ediv_of_nonneg (by omega)]; omega
  have q2 : (T : Int).tmod 256 = (b1.toNat : Int) := by rw [Int.tmod_eq_emod_of_nonneg (by omega)]; omega
  have hTb : T < 65536 := by omega
  generalize b0.toNat = m0 at *
  generalize b1.toNat = m1 at *
  generalize b2.toNat = m2 at *
  generalize b3.toNat = m3 at *
  have HT := Lib.hid hT
  clear hT
  go_enter Try.func25, Try.ntmps25
  go_wp2_with (fail)
  refine q_region (by kernel_rfl) (by kernel_rfl) ?_
  iterate 11 (first
    | (refine q_op' (v := ?_) (a' := ?_) (by rfl) ?_ ?_ ?_
       rotate_left 2
       · intro w' hC
         go_simp
         try with_reducible rfl
       · simp only [Act.put, List.setIfInBounds_toArray, List.set_cons_zero, List.set_cons_succ]
         try rfl)
    | (refine q_skip' (a' := ?_) (by rfl) ?_ ?_
       rotate_left 1
       · simp only [Act.put, List.setIfInBounds_toArray, List.set_cons_zero, List.set_cons_succ]
         try rfl))
  refine wpQuiet_nil ?_
  intro w4 hC
  have HG4 := Lib.hid (show Grows w w4 from hC)
  have c0 := c0 w4 hC
  have c1 := c1 w4 hC
  have c2 := (hC.cell (p := { block := ad.block, off := ad.off + 2 }) (by have := World.block_lt_of_cell? w _ c2; exact this)).trans c2
  have c3 := (hC.cell (p := { block := ad.block, off := ad.off + 3 }) (by have := World.block_lt_of_cell? w _ c3; exact this)).trans c3
  clear hC
  go_wp2_with (fail)
  refine (refSize_any _ _ (by omega) (by omega)).mono ?_
  rintro e w5 ⟨rfl, rfl⟩
  go_wp2_with (fail)
  go_ret3
  exact ⟨rfl, HG4.out⟩

set_option maxRecDepth 100000 in
set_option maxHeartbeats 2000000 in
theorem rf_cut (ad : Addr) (n c : Nat) (b0 b1 b2 b3 : UInt8) (bs : List UInt8) (w : World) (hs : Sl w (some ad) n c (b0 :: b1 :: b2 :: b3 :: bs)) (hn : n ≤ 140737488351232) (T : Nat) (hT : 256 * b0.toNat + b1.toNat = T) (h1 : 1 ≤ T) (h2 : T ≤ 8192) (x2 : b2.toNat + b0.toNat = 255) (x3 : b3.toNat + b1.toNat = 255) (h8 : n < T + 8) :
    Calls Try.prog 25 #[.slice (some ad) n c] w fun e w' => e = .returned (.tuple #[.slice none 0 0, .int .i64 0, .int .i64 21]) ∧ Below w.heap.size w w' := by
  have hcap := hs.cap
  have hlen := hs.len
  obtain ⟨h4, _⟩ := first_cells hs
  have c0 := fun w' (hw : Grows w w') => (first_cells (hs.grow hw)).2.1
  have c1 := fun w' (hw : Grows w w') => (first_cells (hs.grow hw)).2.2.1
  have c2 := (first_cells hs).2.2.2.1
  have c3 := (first_cells hs).2.2.2.2
  have h4' : ((n : Int) < 4) = False := by simp; omega
  have i0 : (0 : Int) < (n : Int) := by omega
  have i1 : (1 : Int) < (n : Int) := by omega
  have i0' : 0 < n := by omega
  have i1' : 1 < n := by omega
  have i2' : 2 < n := by omega
  have i3' : 3 < n := by omega
  have i2 : (2 : Int) < (n : Int) := by omega
  have i3 : (3 : Int) < (n : Int) := by omega
  have HS := Lib.hid hs
  have HL := Lib.hid hlen
  have p0 := b0.toNat_lt
  have p1 := b1.toNat_lt
  have p2 := b2.toNat_lt
  have p3 := b3.toNat_lt
  clear hs hlen
  have hz : sizeN (T : Int) = (T : Int) + 8 := by unfold sizeN; rw [if_pos (by omega)]
  have hz0 : ((T : Int) + 8 == 0) = false := by simp; omega
  have he2 : ((b2.toNat : Int) == 255 - (b0.toNat : Int)) = true := by simp; omega
  have he3 : ((b3.toNat : Int) == 255 - (b1.toNat : Int)) = true := by simp; omega
  have he4 : ((b3.toNat : Int) != 255 - (b1.toNat : Int)) = false := by simp [bne]; omega
  have hd8 : decide ((n : Int) < (T : Int) + 8) = true := by simp; omega
  have w0 : IntKind.i64.wrap (b0.toNat : Int) = (b0.toNat : Int) := IntWalk.i64_in _ (by omega)
  have w1 : IntKind.i64.wrap (b1.toNat : Int) = (b1.toNat : Int) := IntWalk.i64_in _ (by omega)
  have w2 : IntKind.i64.wrap (256 * (b0.toNat : Int)) = 256 * (b0.toNat : Int) := IntWalk.i64_in _ (by omega)
  have w3 : IntKind.i64.wrap (256 * (b0.toNat : Int) + (b1.toNat : Int)) = (T : Int) := (IntWalk.i64_in _ (by omega)).trans (by omega)
  have q1 : (T : Int).tdiv 256 = (b0.toNat : Int) := by rw [Int.tdiv_eq_ediv_of_nonneg (by omega)]; omega
  have q2 : (T : Int).tmod 256 = (b1.toNat : Int) := by rw [Int.tmod_eq_emod_of_nonneg (by omega)]; omega
  have hTb : T < 65536 := by omega
  generalize b0.toNat = m0 at *
  generalize b1.toNat = m1 at *
  generalize b2.toNat = m2 at *
  generalize b3.toNat = m3 at *
  have HT := Lib.hid hT
  clear hT
  go_enter Try.func25, Try.ntmps25
  go_wp2_with (fail)
  refine q_region (by kernel_rfl) (by kernel_rfl) ?_
  iterate 11 (first
    | (refine q_op' (v := ?_) (a' := ?_) (by rfl) ?_ ?_ ?_
       rotate_left 2
       · intro w' hC
         go_simp
         try with_reducible rfl
       · simp only [Act.put, List.setIfInBounds_toArray, List.set_cons_zero, List.set_cons_succ]
         try rfl)
    | (refine q_skip' (a' := ?_) (by rfl) ?_ ?_
       rotate_left 1
       · simp only [Act.put, List.setIfInBounds_toArray, List.set_cons_zero, List.set_cons_succ]
         try rfl))
  refine wpQuiet_nil ?_
  intro w4 hC
  have HG4 := Lib.hid (show Grows w w4 from hC)
  have c0 := c0 w4 hC
  have c1 := c1 w4 hC
  have c2 := (hC.cell (p := { block := ad.block, off := ad.off + 2 }) (by have := World.block_lt_of_cell? w _ c2; exact this)).trans c2
  have c3 := (hC.cell (p := { block := ad.block, off := ad.off + 3 }) (by have := World.block_lt_of_cell? w _ c3; exact this)).trans c3
  clear hC
  go_wp2_with (fail)
  refine (refSize_any _ _ (by omega) (by omega)).mono ?_
  rintro e w5 ⟨rfl, rfl⟩
  go_wp2_with (fail)
  go_ret3
  exact ⟨rfl, HG4.out⟩

set_option maxRecDepth 100000 in
set_option maxHeartbeats 2000000 in
theorem rf_bad (ad : Addr) (n c : Nat) (b0 b1 b2 b3 : UInt8) (bs : List UInt8) (w : World) (hs : Sl w (some ad) n c (b0 :: b1 :: b2 :: b3 :: bs)) (hn : n ≤ 140737488351232) (T : Nat) (hT : 256 * b0.toNat + b1.toNat = T) (h1 : 1 ≤ T) (h2 : T ≤ 8192) (x2 : b2.toNat + b0.toNat = 255) (x3 : b3.toNat + b1.toNat = 255) (h8 : T + 8 ≤ n) (x : List UInt8) (hx : (b0 :: b1 :: b2 :: b3 :: bs).take (T + 4) = b0 :: b1 :: b2 :: b3 :: x) (hq : putB x ≠ (b0 :: b1 :: b2 :: b3 :: bs).take (T + 8)) :
    Calls Try.prog 25 #[.slice (some ad) n c] w fun e w' => e = .returned (.tuple #[.slice none 0 0, .int .i64 ((T + 8 : Nat) : Int), .int .i64 22]) ∧ Below w.heap.size w w' := by
  have hcap := hs.cap
  have hlen := hs.len
  obtain ⟨h4, _⟩ := first_cells hs
  have c0 := fun w' (hw : Grows w w') => (first_cells (hs.grow hw)).2.1
  have c1 := fun w' (hw : Grows w w') => (first_cells (hs.grow hw)).2.2.1
  have c2 := (first_cells hs).2.2.2.1
  have c3 := (first_cells hs).2.2.2.2
  have h4' : ((n : Int) < 4) = False := by simp; omega
  have i0 : (0 : Int) < (n : Int) := by omega
  have i1 : (1 : Int) < (n : Int) := by omega
  have i0' : 0 < n := by omega
  have i1' : 1 < n := by omega
  have i2' : 2 < n := by omega
  have i3' : 3 < n := by omega
  have i2 : (2 : Int) < (n : Int) := by omega
  have i3 : (3 : Int) < (n : Int) := by omega
  have HS := Lib.hid hs
  have HL := Lib.hid hlen
  have p0 := b0.toNat_lt
  have p1 := b1.toNat_lt
  have p2 := b2.toNat_lt
  have p3 := b3.toNat_lt
  clear hs hlen
  have hz : sizeN (T : Int) = (T : Int) + 8 := by unfold sizeN; rw [if_pos (by omega)]
  have hz0 : ((T : Int) + 8 == 0) = false := by simp; omega
  have he2 : ((b2.toNat : Int) == 255 - (b0.toNat : Int)) = true := by simp; omega
  have he3 : ((b3.toNat : Int) == 255 - (b1.toNat : Int)) = true := by simp; omega
  have he4 : ((b3.toNat : Int) != 255 - (b1.toNat : Int)) = false := by simp [bne]; omega
  have hd8 : decide ((n : Int) < (T : Int) + 8) = false := by simp; omega
  have l4 : (4 : Int) ≤ (T : Int) + 4 := by omega
  have l5 : (T : Int) + 4 ≤ (c : Int) := by omega
  have l6 : ¬ c = 4 := by omega
  have hxl : x.length = T := by have h := congrArg List.length hx; rw [List.length_take, HL.out] at h; simp only [List.length_cons] at h; omega
  have hp := HS.out.part (k := 4) (m := T + 4) (by omega) (by omega) l6
  rw [Addr.add_succ' ad 3, hx] at hp
  have hp2 : Sl w (some { block := ad.block, off := ad.off + 4 }) (T + 4 - 4) (c - 4) x := hp
  have HP := Lib.hid hp2
  obtain ⟨E, hE⟩ : ∃ E, E = T + 8 := ⟨_, rfl⟩
  have K8 : Hid (IntKind.i64.wrap ((T : Int) + 8) = (E : Int)) := (IntWalk.i64_in _ (by have := b0.toNat_lt; have := b1.toNat_lt; omega)).trans (by omega)
  have HLB : Hid ((0 : Int) ≤ (E : Int) ∧ (E : Int) ≤ (c : Int)) := ⟨by omega, by omega⟩
  have HE := Lib.hid hE
  clear hE
  have HXL := Lib.hid hxl
  have H8 := Lib.hid h8
  clear hp hp2 hxl h8
  have w0 : IntKind.i64.wrap (b0.toNat : Int) = (b0.toNat : Int) := IntWalk.i64_in _ (by omega)
  have w1 : IntKind.i64.wrap (b1.toNat : Int) = (b1.toNat : Int) := IntWalk.i64_in _ (by omega)
  have w2 : IntKind.i64.wrap (256 * (b0.toNat : Int)) = 256 * (b0.toNat : Int) := IntWalk.i64_in _ (by omega)
  have w3 : IntKind.i64.wrap (256 * (b0.toNat : Int) + (b1.toNat : Int)) = (T : Int) := (IntWalk.i64_in _ (by omega)).trans (by omega)
  have q1 : (T : Int).tdiv 256 = (b0.toNat : Int) := by rw [Int.tdiv_eq_ediv_of_nonneg (by omega)]; omega
  have q2 : (T : Int).tmod 256 = (b1.toNat : Int) := by rw [Int.tmod_eq_emod_of_nonneg (by omega)]; omega
  have hTb : T < 65536 := by omega
  generalize b0.toNat = m0 at *
  generalize b1.toNat = m1 at *
  generalize b2.toNat = m2 at *
  generalize b3.toNat = m3 at *
  have HT := Lib.hid hT
  clear hT
  go_enter Try.func25, Try.ntmps25
  go_wp2_with (fail)
  refine q_region (by kernel_rfl) (by kernel_rfl) ?_
  iterate 11 (first
    | (refine q_op' (v := ?_) (a' := ?_) (by rfl) ?_ ?_ ?_
       rotate_left 2
       · intro w' hC
         go_simp
         try with_reducible rfl
       · simp only [Act.put, List.setIfInBounds_toArray, List.set_cons_zero, List.set_cons_succ]
         try rfl)
    | (refine q_skip' (a' := ?_) (by rfl) ?_ ?_
       rotate_left 1
       · simp only [Act.put, List.setIfInBounds_toArray, List.set_cons_zero, List.set_cons_succ]
         try rfl))
  refine wpQuiet_nil ?_
  intro w4 hC
  have HG4 := Lib.hid (show Grows w w4 from hC)
  have c0 := c0 w4 hC
  have c1 := c1 w4 hC
  have c2 := (hC.cell (p := { block := ad.block, off := ad.off + 2 }) (by have := World.block_lt_of_cell? w _ c2; exact this)).trans c2
  have c3 := (hC.cell (p := { block := ad.block, off := ad.off + 3 }) (by have := World.block_lt_of_cell? w _ c3; exact this)).trans c3
  clear hC
  go_wp2_with (fail)
  refine (refSize_any _ _ (by omega) (by omega)).mono ?_
  rintro e w5 ⟨rfl, rfl⟩
  have hq2 : putB x ≠ (b0 :: b1 :: b2 :: b3 :: bs).take E := by rw [HE.out]; exact hq
  have HQ := Lib.hid hq2
  clear hq hq2
  go_wp2_with (first
    | (at_builtin
       refine list_append_sl rfl (.tmp 48) (.tmp 52) rfl rfl (owned_none w4) (A := some { block := ad.block, off := ad.off + 4 }) (m := T + 4 - 4) (c := c - 4) rfl (HP.out.grow (Grows.trans HG4.out (grows_alloc _ _))) T (by omega) x rfl (by omega) (le_alloc _ _) ?_
       intro A6 c6 w6 hown6 hb6
       have HX6 := Lib.hid (Sl.owned hown6)
       have HO6 := Lib.hid (owned_from hown6 HG4.out.size)
       have HG6 := Lib.hid (Grows.trans HG4.out (Below.trans ((Below.refl _ w4).alloc (Nat.le_refl _) _) hb6))
       clear hown6 hb6))
  have HF6 := Lib.hid (HS.out.grow HG6.out)
  refine wp_region_facts (E := Grows) [valFact (.slice A6 T c6), slFact (putB x), valFact (.string ⟨(putB x).toArray⟩), valFact (.slice (some ad) n c), valFact (.int .i64 (T : Int)), valFact (.int .i64 (E : Int)), valFact (.slice (some ad) E c), valFact (.string ⟨((b0 :: b1 :: b2 :: b3 :: bs).take E).toArray⟩), valFact (.bool true)] (by kernel_rfl) (by kernel_rfl) (fun _ _ _ => Grows.trans) (grows_drew _) ?_
  refine f_val (.slice A6 T c6) (by rfl) ?_ ?_
  · intro w' hC; clear hC; go_simp
  simp only [Act.put, List.setIfInBounds_toArray, List.set_cons_zero, List.set_cons_succ]
  refine f_new (putB x) 17 #[.slice A6 T c6] (by rfl) (by intro w' hC; clear hC; go_simp) ?_ ?_
  · intro w' hC _; exact refPut_any A6 T c6 x w' (HX6.out.grow hC) (by unfold maxLen; omega)
  intro A7 c7
  simp only [Act.put, List.setIfInBounds_toArray, List.set_cons_zero, List.set_cons_succ]
  refine f_known (.string ⟨(putB x).toArray⟩) (by rfl) ?_ ?_
  · intro w' hC hk; exact run_op_string rfl rfl (Known.get hk 0 rfl (by rfl))
  simp only [Act.put, List.setIfInBounds_toArray, List.set_cons_zero, List.set_cons_succ]
  refine f_val (.slice (some ad) n c) (by rfl) ?_ ?_
  · intro w' hC; clear hC; go_simp
  simp only [Act.put, List.setIfInBounds_toArray, List.set_cons_zero, List.set_cons_succ]
  refine f_val (.int .i64 (T : Int)) (by rfl) ?_ ?_
  · intro w' hC; clear hC; go_simp
  simp only [Act.put, List.setIfInBounds_toArray, List.set_cons_zero, List.set_cons_succ]
  refine f_val (.int .i64 (E : Int)) (by rfl) ?_ ?_
  · intro w' hC; have hk8 := K8.out; clear hC; go_simp
  simp only [Act.put, List.setIfInBounds_toArray, List.set_cons_zero, List.set_cons_succ]
  refine f_val (.slice (some ad) E c) (by rfl) ?_ ?_
  · intro w' hC; have hlb := HLB.out; obtain ⟨l0, l1⟩ := hlb; clear hC; go_simp
  simp only [Act.put, List.setIfInBounds_toArray, List.set_cons_zero, List.set_cons_succ]
  refine f_known (.string ⟨((b0 :: b1 :: b2 :: b3 :: bs).take E).toArray⟩) (by rfl) ?_ ?_
  · intro w' hC _; exact run_op_string rfl rfl ((HF6.out.grow hC).first (by have h1 := HE.out; have h2 := H8.out; omega))
  simp only [Act.put, List.setIfInBounds_toArray, List.set_cons_zero, List.set_cons_succ]
  refine f_val (.bool true) (by rfl) ?_ ?_
  · intro w' hC; have hq := HQ.out; clear hC; go_simp
  simp only [Act.put, List.setIfInBounds_toArray, List.set_cons_zero, List.set_cons_succ]
  intro w9 hC _
  have HCw9 := Lib.hid hC
  clear hC
  go_wp2_with (fail)
  go_ret3
  exact ⟨rfl, Grows.trans HG6.out HCw9.out⟩

set_option maxRecDepth 100000 in
set_option maxHeartbeats 2000000 in
theorem rf_ok (ad : Addr) (n c : Nat) (b0 b1 b2 b3 : UInt8) (bs : List UInt8) (w : World) (hs : Sl w (some ad) n c (b0 :: b1 :: b2 :: b3 :: bs)) (hn : n ≤ 140737488351232) (T : Nat) (hT : 256 * b0.toNat + b1.toNat = T) (h1 : 1 ≤ T) (h2 : T ≤ 8192) (x2 : b2.toNat + b0.toNat = 255) (x3 : b3.toNat + b1.toNat = 255) (h8 : T + 8 ≤ n) (x : List UInt8) (hx : (b0 :: b1 :: b2 :: b3 :: bs).take (T + 4) = b0 :: b1 :: b2 :: b3 :: x) (hq : putB x = (b0 :: b1 :: b2 :: b3 :: bs).take (T + 8)) :
    Calls Try.prog 25 #[.slice (some ad) n c] w fun e w' => ∃ A' c', e = .returned (.tuple #[.slice A' T c', .int .i64 ((T + 8 : Nat) : Int), .int .i64 0]) ∧ w'.ownsRow w.heap.size 5 1 (.slice A' T c') T (x.map byteV) ∧ Below w.heap.size w w' := by
  have hcap := hs.cap
  have hlen := hs.len
  obtain ⟨h4, _⟩ := first_cells hs
  have c0 := fun w' (hw : Grows w w') => (first_cells (hs.grow hw)).2.1
  have c1 := fun w' (hw : Grows w w') => (first_cells (hs.grow hw)).2.2.1
  have c2 := (first_cells hs).2.2.2.1
  have c3 := (first_cells hs).2.2.2.2
  have h4' : ((n : Int) < 4) = False := by simp; omega
  have i0 : (0 : Int) < (n : Int) := by omega
  have i1 : (1 : Int) < (n : Int) := by omega
  have i0' : 0 < n := by omega
  have i1' : 1 < n := by omega
  have i2' : 2 < n := by omega
  have i3' : 3 < n := by omega
  have i2 : (2 : Int) < (n : Int) := by omega
  have i3 : (3 : Int) < (n : Int) := by omega
  have HS := Lib.hid hs
  have HL := Lib.hid hlen
  have p0 := b0.toNat_lt
  have p1 := b1.toNat_lt
  have p2 := b2.toNat_lt
  have p3 := b3.toNat_lt
  clear hs hlen
  have hz : sizeN (T : Int) = (T : Int) + 8 := by unfold sizeN; rw [if_pos (by omega)]
  have hz0 : ((T : Int) + 8 == 0) = false := by simp; omega
  have he2 : ((b2.toNat : Int) == 255 - (b0.toNat : Int)) = true := by simp; omega
  have he3 : ((b3.toNat : Int) == 255 - (b1.toNat : Int)) = true := by simp; omega
  have he4 : ((b3.toNat : Int) != 255 - (b1.toNat : Int)) = false := by simp [bne]; omega
  have hd8 : decide ((n : Int) < (T : Int) + 8) = false := by simp; omega
  have l4 : (4 : Int) ≤ (T : Int) + 4 := by omega
  have l5 : (T : Int) + 4 ≤ (c : Int) := by omega
  have l6 : ¬ c = 4 := by omega
  have hxl : x.length = T := by have h := congrArg List.length hx; rw [List.length_take, HL.out] at h; simp only [List.length_cons] at h; omega
  have hp := HS.out.part (k := 4) (m := T + 4) (by omega) (by omega) l6
  rw [Addr.add_succ' ad 3, hx] at hp
  have hp2 : Sl w (some { block := ad.block, off := ad.off + 4 }) (T + 4 - 4) (c - 4) x := hp
  have HP := Lib.hid hp2
  obtain ⟨E, hE⟩ : ∃ E, E = T + 8 := ⟨_, rfl⟩
  have K8 : Hid (IntKind.i64.wrap ((T : Int) + 8) = (E : Int)) := (IntWalk.i64_in _ (by have := b0.toNat_lt; have := b1.toNat_lt; omega)).trans (by omega)
  have HLB : Hid ((0 : Int) ≤ (E : Int) ∧ (E : Int) ≤ (c : Int)) := ⟨by omega, by omega⟩
  have HE := Lib.hid hE
  clear hE
  have HXL := Lib.hid hxl
  have H8 := Lib.hid h8
  clear hp hp2 hxl h8
  have w0 : IntKind.i64.wrap (b0.toNat : Int) = (b0.toNat : Int) := IntWalk.i64_in _ (by omega)
  have w1 : IntKind.i64.wrap (b1.toNat : Int) = (b1.toNat : Int) := IntWalk.i64_in _ (by omega)
  have w2 : IntKind.i64.wrap (256 * (b0.toNat : Int)) = 256 * (b0.toNat : Int) := IntWalk.i64_in _ (by omega)
  have w3 : IntKind.i64.wrap (256 * (b0.toNat : Int) + (b1.toNat : Int)) = (T : Int) := (IntWalk.i64_in _ (by omega)).trans (by omega)
  have q1 : (T : Int).tdiv 256 = (b0.toNat : Int) := by rw [Int.tdiv_eq_ediv_of_nonneg (by omega)]; omega
  have q2 : (T : Int).tmod 256 = (b1.toNat : Int) := by rw [Int.tmod_eq_emod_of_nonneg (by omega)]; omega
  have hTb : T < 65536 := by omega
  generalize b0.toNat = m0 at *
  generalize b1.toNat = m1 at *
  generalize b2.toNat = m2 at *
  generalize b3.toNat = m3 at *
  have HT := Lib.hid hT
  clear hT
  go_enter Try.func25, Try.ntmps25
  go_wp2_with (fail)
  refine q_region (by kernel_rfl) (by kernel_rfl) ?_
  iterate 11 (first
    | (refine q_op' (v := ?_) (a' := ?_) (by rfl) ?_ ?_ ?_
       rotate_left 2
       · intro w' hC
         go_simp
         try with_reducible rfl
       · simp only [Act.put, List.setIfInBounds_toArray, List.set_cons_zero, List.set_cons_succ]
         try rfl)
    | (refine q_skip' (a' := ?_) (by rfl) ?_ ?_
       rotate_left 1
       · simp only [Act.put, List.setIfInBounds_toArray, List.set_cons_zero, List.set_cons_succ]
         try rfl))
  refine wpQuiet_nil ?_
  intro w4 hC
  have HG4 := Lib.hid (show Grows w w4 from hC)
  have c0 := c0 w4 hC
  have c1 := c1 w4 hC
  have c2 := (hC.cell (p := { block := ad.block, off := ad.off + 2 }) (by have := World.block_lt_of_cell? w _ c2; exact this)).trans c2
  have c3 := (hC.cell (p := { block := ad.block, off := ad.off + 3 }) (by have := World.block_lt_of_cell? w _ c3; exact this)).trans c3
  clear hC
  go_wp2_with (fail)
  refine (refSize_any _ _ (by omega) (by omega)).mono ?_
  rintro e w5 ⟨rfl, rfl⟩
  have hq2 : putB x = (b0 :: b1 :: b2 :: b3 :: bs).take E := by rw [HE.out]; exact hq
  have HQ := Lib.hid hq2
  clear hq hq2
  go_wp2_with (first
    | (at_builtin
       refine list_append_sl rfl (.tmp 48) (.tmp 52) rfl rfl (owned_none w4) (A := some { block := ad.block, off := ad.off + 4 }) (m := T + 4 - 4) (c := c - 4) rfl (HP.out.grow (Grows.trans HG4.out (grows_alloc _ _))) T (by omega) x rfl (by omega) (le_alloc _ _) ?_
       intro A6 c6 w6 hown6 hb6
       have HX6 := Lib.hid (Sl.owned hown6)
       have HO6 := Lib.hid (owned_from hown6 HG4.out.size)
       have HG6 := Lib.hid (Grows.trans HG4.out (Below.trans ((Below.refl _ w4).alloc (Nat.le_refl _) _) hb6))
       clear hown6 hb6))
  have HF6 := Lib.hid (HS.out.grow HG6.out)
  refine wp_region_facts (E := Grows) [valFact (.slice A6 T c6), slFact (putB x), valFact (.string ⟨(putB x).toArray⟩), valFact (.slice (some ad) n c), valFact (.int .i64 (T : Int)), valFact (.int .i64 (E : Int)), valFact (.slice (some ad) E c), valFact (.string ⟨((b0 :: b1 :: b2 :: b3 :: bs).take E).toArray⟩), valFact (.bool false)] (by kernel_rfl) (by kernel_rfl) (fun _ _ _ => Grows.trans) (grows_drew _) ?_
  refine f_val (.slice A6 T c6) (by rfl) ?_ ?_
  · intro w' hC; clear hC; go_simp
  simp only [Act.put, List.setIfInBounds_toArray, List.set_cons_zero, List.set_cons_succ]
  refine f_new (putB x) 17 #[.slice A6 T c6] (by rfl) (by intro w' hC; clear hC; go_simp) ?_ ?_
  · intro w' hC _; exact refPut_any A6 T c6 x w' (HX6.out.grow hC) (by unfold maxLen; omega)
  intro A7 c7
  simp only [Act.put, List.setIfInBounds_toArray, List.set_cons_zero, List.set_cons_succ]
  refine f_known (.string ⟨(putB x).toArray⟩) (by rfl) ?_ ?_
  · intro w' hC hk; exact run_op_string rfl rfl (Known.get hk 0 rfl (by rfl))
  simp only [Act.put, List.setIfInBounds_toArray, List.set_cons_zero, List.set_cons_succ]
  refine f_val (.slice (some ad) n c) (by rfl) ?_ ?_
  · intro w' hC; clear hC; go_simp
  simp only [Act.put, List.setIfInBounds_toArray, List.set_cons_zero, List.set_cons_succ]
  refine f_val (.int .i64 (T : Int)) (by rfl) ?_ ?_
  · intro w' hC; clear hC; go_simp
  simp only [Act.put, List.setIfInBounds_toArray, List.set_cons_zero, List.set_cons_succ]
  refine f_val (.int .i64 (E : Int)) (by rfl) ?_ ?_
  · intro w' hC; have hk8 := K8.out; clear hC; go_simp
  simp only [Act.put, List.setIfInBounds_toArray, List.set_cons_zero, List.set_cons_succ]
  refine f_val (.slice (some ad) E c) (by rfl) ?_ ?_
  · intro w' hC; have hlb := HLB.out; obtain ⟨l0, l1⟩ := hlb; clear hC; go_simp
  simp only [Act.put, List.setIfInBounds_toArray, List.set_cons_zero, List.set_cons_succ]
  refine f_known (.string ⟨((b0 :: b1 :: b2 :: b3 :: bs).take E).toArray⟩) (by rfl) ?_ ?_
  · intro w' hC _; exact run_op_string rfl rfl ((HF6.out.grow hC).first (by have h1 := HE.out; have h2 := H8.out; omega))
  simp only [Act.put, List.setIfInBounds_toArray, List.set_cons_zero, List.set_cons_succ]
  refine f_val (.bool false) (by rfl) ?_ ?_
  · intro w' hC; have hq := HQ.out; clear hC; go_simp
  simp only [Act.put, List.setIfInBounds_toArray, List.set_cons_zero, List.set_cons_succ]
  intro w9 hC _
  have HCw9 := Lib.hid hC
  clear hC
  go_wp2_with (fail)
  go_ret3
  exact ⟨A6, c6, rfl, owned_grow HO6.out HCw9.out, Grows.trans HG6.out HCw9.out⟩

end Go.Proofs.Ytchndjebgpibjaa
