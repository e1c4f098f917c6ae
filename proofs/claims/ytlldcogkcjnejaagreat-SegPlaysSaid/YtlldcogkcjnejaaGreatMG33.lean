import Derived.Test.YtlldcogkcjnejaaGreatMG17
import Derived.Test.YtlldcogkcjnejaaGreatMG25
namespace Go.Proofs.YtlldcogkcjnejaaGreat
open Go.Lib (hid)
open Go.RowKit
theorem Zqc (A : Option Addr) (n c : Nat) (w : World) (h : n < 4) :
 Calls Tryz.prog 64 #[.slice A n c] w fun e w' => e = .returned (.tuple #[.slice none 0 0, .int .i64 0, .int .i64 21]) ∧ Below w.heap.size w w' := by
 go_enter Tryz.func64, Tryz.ntmps64
 go_wp2_with (fail)
 go_ret3
 exact ⟨rfl, Below.refl _ _⟩
set_option maxRecDepth 100000 in
set_option maxHeartbeats 2000000 in
theorem Zru (ad : Addr) (n c : Nat) (b0 b1 b2 b3 : UInt8) (bs : List UInt8) (w : World) (hs : Sl w (some ad) n c (b0 :: b1 :: b2 :: b3 :: bs)) (hn : n ≤ 140737488351232) (T : Nat) (hT : 256 * b0.toNat + b1.toNat = T) (h0 : ¬ (1 ≤ T ∧ T ≤ 8192)) :
 Calls Tryz.prog 64 #[.slice (some ad) n c] w fun e w' => e = .returned (.tuple #[.slice none 0 0, .int .i64 0, .int .i64 22]) ∧ Below w.heap.size w w' := by
 have hcap := hs.cap
 have hlen := hs.len
 obtain ⟨h4, _⟩ := Zi hs
 have c0 := fun w' (hw : Grows w w') => (Zi (hs.grow hw)).2.1
 have c1 := fun w' (hw : Grows w w') => (Zi (hs.grow hw)).2.2.1
 have c2 := (Zi hs).2.2.2.1
 have c3 := (Zi hs).2.2.2.2
 have h4' : ((n : Int) < 4) = False := by simp; omega
 have i0 : (0 : Int) < (n : Int) := by omega
 have i1 : (1 : Int) < (n : Int) := by omega
 have i0' : 0 < n := by omega
 have i1' : 1 < n := by omega
 have i2' : 2 < n := by omega
 have i3' : 3 < n := by omega
 have i2 : (2 : Int) < (n : Int) := by omega
 have i3 : (3 : Int) < (n : Int) := by omega
 have HS := hid hs
 have HL := hid hlen
 have p0 := b0.toNat_lt
 have p1 := b1.toNat_lt
 have p2 := b2.toNat_lt
 have p3 := b3.toNat_lt
 clear hs hlen
 have hz : sizeN (T : Int) = 0 := by unfold sizeN; rw [if_neg (by omega)]
 have w0 : IntKind.i64.wrap (b0.toNat : Int) = (b0.toNat : Int) := IntWalk.i64_in _ (by omega)
 have w1 : IntKind.i64.wrap (b1.toNat : Int) = (b1.toNat : Int) := IntWalk.i64_in _ (by omega)
 have w2 : IntKind.i64.wrap (256 * (b0.toNat : Int)) = 256 * (b0.toNat : Int) := IntWalk.i64_in _ (by omega)
 have w3 : IntKind.i64.wrap (256 * (b0.toNat : Int) + (b1.toNat : Int)) = (T : Int) := (IntWalk.i64_in _ (by omega)).trans (by omega)
 have q1 : (T : Int).tdiv 256 = (b0.toNat : Int) := by rw [Int.tdiv_eq_ediv_of_nonneg (by omega)]; omega
 have q2 : (T : Int).tmod 256 = (b1.toNat : Int) := by rw [Int.tmod_eq_emod_of_nonneg (by omega)]; omega
 have hTb : T < 65536 := by omega
 generalize b0.toNat = m0 at *
 generalize b1.toNat = m1 at *
 generalize b2.toNat = m2 at *
 generalize b3.toNat = m3 at *
 have HT := hid hT
 clear hT
 go_enter Tryz.func64, Tryz.ntmps64
 go_wp2_with (fail)
 refine Zo (by kernel_rfl) (by kernel_rfl) ?_
 iterate 11 (first
  | (refine q_op' (v := ?_) (a' := ?_) (by rfl) ?_ ?_ ?_
     rotate_left 2
     ·intro w' hC
      go_simp
      try with_reducible rfl
     ·simp only [Pu]
      try rfl)
  | (refine Zbk (a' := ?_) (by rfl) ?_ ?_
     rotate_left 1
     ·simp only [Pu]
      try rfl))
 refine wpQuiet_nil ?_
 intro w4 hC
 have HG4 := hid (show Grows w w4 from hC)
 have c0 := c0 w4 hC
 have c1 := c1 w4 hC
 have c2 := (hC.cell (p := { block := ad.block, off := ad.off + 2 }) (by have := World.block_lt_of_cell? w _ c2; exact this)).trans c2
 have c3 := (hC.cell (p := { block := ad.block, off := ad.off + 3 }) (by have := World.block_lt_of_cell? w _ c3; exact this)).trans c3
 clear hC
 go_wp2_with (fail)
 refine (Yf _ _ (by omega) (by omega)).mono ?_
 rintro e w5 ⟨rfl, rfl⟩
 go_wp2_with (fail)
 go_ret3
 exact ⟨rfl, HG4.out⟩
set_option maxRecDepth 100000 in
set_option maxHeartbeats 2000000 in
theorem Zsd (ad : Addr) (n c : Nat) (b0 b1 b2 b3 : UInt8) (bs : List UInt8) (w : World) (hs : Sl w (some ad) n c (b0 :: b1 :: b2 :: b3 :: bs)) (hn : n ≤ 140737488351232) (T : Nat) (hT : 256 * b0.toNat + b1.toNat = T) (h1 : 1 ≤ T) (h2 : T ≤ 8192) (x2 : ¬ b2.toNat + b0.toNat = 255) :
 Calls Tryz.prog 64 #[.slice (some ad) n c] w fun e w' => e = .returned (.tuple #[.slice none 0 0, .int .i64 0, .int .i64 22]) ∧ Below w.heap.size w w' := by
 have hcap := hs.cap
 have hlen := hs.len
 obtain ⟨h4, _⟩ := Zi hs
 have c0 := fun w' (hw : Grows w w') => (Zi (hs.grow hw)).2.1
 have c1 := fun w' (hw : Grows w w') => (Zi (hs.grow hw)).2.2.1
 have c2 := (Zi hs).2.2.2.1
 have c3 := (Zi hs).2.2.2.2
 have h4' : ((n : Int) < 4) = False := by simp; omega
 have i0 : (0 : Int) < (n : Int) := by omega
 have i1 : (1 : Int) < (n : Int) := by omega
 have i0' : 0 < n := by omega
 have i1' : 1 < n := by omega
 have i2' : 2 < n := by omega
 have i3' : 3 < n := by omega
 have i2 : (2 : Int) < (n : Int) := by omega
 have i3 : (3 : Int) < (n : Int) := by omega
 have HS := hid hs
 have HL := hid hlen
 have p0 := b0.toNat_lt
 have p1 := b1.toNat_lt
 have p2 := b2.toNat_lt
 have p3 := b3.toNat_lt
 clear hs hlen
 have hz : sizeN (T : Int) = (T : Int) + 8 := by unfold sizeN; rw [if_pos (by omega)]
 have hz0 : ((T : Int) + 8 == 0) = false := by simp; omega
 have he2 : ((b2.toNat : Int) == 255 - (b0.toNat : Int)) = false := by simp; omega
 have w0 : IntKind.i64.wrap (b0.toNat : Int) = (b0.toNat : Int) := IntWalk.i64_in _ (by omega)
 have w1 : IntKind.i64.wrap (b1.toNat : Int) = (b1.toNat : Int) := IntWalk.i64_in _ (by omega)
 have w2 : IntKind.i64.wrap (256 * (b0.toNat : Int)) = 256 * (b0.toNat : Int) := IntWalk.i64_in _ (by omega)
 have w3 : IntKind.i64.wrap (256 * (b0.toNat : Int) + (b1.toNat : Int)) = (T : Int) := (IntWalk.i64_in _ (by omega)).trans (by omega)
 have q1 : (T : Int).tdiv 256 = (b0.toNat : Int) := by rw [Int.tdiv_eq_ediv_of_nonneg (by omega)]; omega
 have q2 : (T : Int).tmod 256 = (b1.toNat : Int) := by rw [Int.tmod_eq_emod_of_nonneg (by omega)]; omega
 have hTb : T < 65536 := by omega
 generalize b0.toNat = m0 at *
 generalize b1.toNat = m1 at *
 generalize b2.toNat = m2 at *
 generalize b3.toNat = m3 at *
 have HT := hid hT
 clear hT
 go_enter Tryz.func64, Tryz.ntmps64
 go_wp2_with (fail)
 refine Zo (by kernel_rfl) (by kernel_rfl) ?_
 iterate 11 (first
  | (refine q_op' (v := ?_) (a' := ?_) (by rfl) ?_ ?_ ?_
     rotate_left 2
     ·intro w' hC
      go_simp
      try with_reducible rfl
     ·simp only [Pu]
      try rfl)
  | (refine Zbk (a' := ?_) (by rfl) ?_ ?_
     rotate_left 1
     ·simp only [Pu]
      try rfl))
 refine wpQuiet_nil ?_
 intro w4 hC
 have HG4 := hid (show Grows w w4 from hC)
 have c0 := c0 w4 hC
 have c1 := c1 w4 hC
 have c2 := (hC.cell (p := { block := ad.block, off := ad.off + 2 }) (by have := World.block_lt_of_cell? w _ c2; exact this)).trans c2
 have c3 := (hC.cell (p := { block := ad.block, off := ad.off + 3 }) (by have := World.block_lt_of_cell? w _ c3; exact this)).trans c3
 clear hC
 go_wp2_with (fail)
 refine (Yf _ _ (by omega) (by omega)).mono ?_
 rintro e w5 ⟨rfl, rfl⟩
 go_wp2_with (fail)
 go_ret3
 exact ⟨rfl, HG4.out⟩
set_option maxRecDepth 100000 in
set_option maxHeartbeats 2000000 in
theorem Zqd (ad : Addr) (n c : Nat) (b0 b1 b2 b3 : UInt8) (bs : List UInt8) (w : World) (hs : Sl w (some ad) n c (b0 :: b1 :: b2 :: b3 :: bs)) (hn : n ≤ 140737488351232) (T : Nat) (hT : 256 * b0.toNat + b1.toNat = T) (h1 : 1 ≤ T) (h2 : T ≤ 8192) (x2 : b2.toNat + b0.toNat = 255) (x3 : ¬ b3.toNat + b1.toNat = 255) :
 Calls Tryz.prog 64 #[.slice (some ad) n c] w fun e w' => e = .returned (.tuple #[.slice none 0 0, .int .i64 0, .int .i64 22]) ∧ Below w.heap.size w w' := by
 have hcap := hs.cap
 have hlen := hs.len
 obtain ⟨h4, _⟩ := Zi hs
 have c0 := fun w' (hw : Grows w w') => (Zi (hs.grow hw)).2.1
 have c1 := fun w' (hw : Grows w w') => (Zi (hs.grow hw)).2.2.1
 have c2 := (Zi hs).2.2.2.1
 have c3 := (Zi hs).2.2.2.2
 have h4' : ((n : Int) < 4) = False := by simp; omega
 have i0 : (0 : Int) < (n : Int) := by omega
 have i1 : (1 : Int) < (n : Int) := by omega
 have i0' : 0 < n := by omega
 have i1' : 1 < n := by omega
 have i2' : 2 < n := by omega
 have i3' : 3 < n := by omega
 have i2 : (2 : Int) < (n : Int) := by omega
 have i3 : (3 : Int) < (n : Int) := by omega
 have HS := hid hs
 have HL := hid hlen
 have p0 := b0.toNat_lt
 have p1 := b1.toNat_lt
 have p2 := b2.toNat_lt
 have p3 := b3.toNat_lt
 clear hs hlen
 have hz : sizeN (T : Int) = (T : Int) + 8 := by unfold sizeN; rw [if_pos (by omega)]
 have hz0 : ((T : Int) + 8 == 0) = false := by simp; omega
 have he2 : ((b2.toNat : Int) == 255 - (b0.toNat : Int)) = true := by simp; omega
 have he3 : ((b3.toNat : Int) == 255 - (b1.toNat : Int)) = false := by simp; omega
 have he4 : ((b3.toNat : Int) != 255 - (b1.toNat : Int)) = true := by simp [bne]; omega
 have w0 : IntKind.i64.wrap (b0.toNat : Int) = (b0.toNat : Int) := IntWalk.i64_in _ (by omega)
 have w1 : IntKind.i64.wrap (b1.toNat : Int) = (b1.toNat : Int) := IntWalk.i64_in _ (by omega)
 have w2 : IntKind.i64.wrap (256 * (b0.toNat : Int)) = 256 * (b0.toNat : Int) := IntWalk.i64_in _ (by omega)
 have w3 : IntKind.i64.wrap (256 * (b0.toNat : Int) + (b1.toNat : Int)) = (T : Int) := (IntWalk.i64_in _ (by omega)).trans (by omega)
 have q1 : (T : Int).tdiv 256 = (b0.toNat : Int) := by rw [Int.tdiv_eq_ediv_of_nonneg (by omega)]; omega
 have q2 : (T : Int).tmod 256 = (b1.toNat : Int) := by rw [Int.tmod_eq_emod_of_nonneg (by omega)]; omega
 have hTb : T < 65536 := by omega
 generalize b0.toNat = m0 at *
 generalize b1.toNat = m1 at *
 generalize b2.toNat = m2 at *
 generalize b3.toNat = m3 at *
 have HT := hid hT
 clear hT
 go_enter Tryz.func64, Tryz.ntmps64
 go_wp2_with (fail)
 refine Zo (by kernel_rfl) (by kernel_rfl) ?_
 iterate 11 (first
  | (refine q_op' (v := ?_) (a' := ?_) (by rfl) ?_ ?_ ?_
     rotate_left 2
     ·intro w' hC
      go_simp
      try with_reducible rfl
     ·simp only [Pu]
      try rfl)
  | (refine Zbk (a' := ?_) (by rfl) ?_ ?_
     rotate_left 1
     ·simp only [Pu]
      try rfl))
 refine wpQuiet_nil ?_
 intro w4 hC
 have HG4 := hid (show Grows w w4 from hC)
 have c0 := c0 w4 hC
 have c1 := c1 w4 hC
 have c2 := (hC.cell (p := { block := ad.block, off := ad.off + 2 }) (by have := World.block_lt_of_cell? w _ c2; exact this)).trans c2
 have c3 := (hC.cell (p := { block := ad.block, off := ad.off + 3 }) (by have := World.block_lt_of_cell? w _ c3; exact this)).trans c3
 clear hC
 go_wp2_with (fail)
 refine (Yf _ _ (by omega) (by omega)).mono ?_
 rintro e w5 ⟨rfl, rfl⟩
 go_wp2_with (fail)
 go_ret3
 exact ⟨rfl, HG4.out⟩
set_option maxRecDepth 100000 in
set_option maxHeartbeats 2000000 in
theorem Zse (ad : Addr) (n c : Nat) (b0 b1 b2 b3 : UInt8) (bs : List UInt8) (w : World) (hs : Sl w (some ad) n c (b0 :: b1 :: b2 :: b3 :: bs)) (hn : n ≤ 140737488351232) (T : Nat) (hT : 256 * b0.toNat + b1.toNat = T) (h1 : 1 ≤ T) (h2 : T ≤ 8192) (x2 : b2.toNat + b0.toNat = 255) (x3 : b3.toNat + b1.toNat = 255) (h8 : n < T + 8) :
 Calls Tryz.prog 64 #[.slice (some ad) n c] w fun e w' => e = .returned (.tuple #[.slice none 0 0, .int .i64 0, .int .i64 21]) ∧ Below w.heap.size w w' := by
 have hcap := hs.cap
 have hlen := hs.len
 obtain ⟨h4, _⟩ := Zi hs
 have c0 := fun w' (hw : Grows w w') => (Zi (hs.grow hw)).2.1
 have c1 := fun w' (hw : Grows w w') => (Zi (hs.grow hw)).2.2.1
 have c2 := (Zi hs).2.2.2.1
 have c3 := (Zi hs).2.2.2.2
 have h4' : ((n : Int) < 4) = False := by simp; omega
 have i0 : (0 : Int) < (n : Int) := by omega
 have i1 : (1 : Int) < (n : Int) := by omega
 have i0' : 0 < n := by omega
 have i1' : 1 < n := by omega
 have i2' : 2 < n := by omega
 have i3' : 3 < n := by omega
 have i2 : (2 : Int) < (n : Int) := by omega
 have i3 : (3 : Int) < (n : Int) := by omega
 have HS := hid hs
 have HL := hid hlen
 have p0 := b0.toNat_lt
 have p1 := b1.toNat_lt
 have p2 := b2.toNat_lt
 have p3 := b3.toNat_lt
 clear hs hlen
 have hz : sizeN (T : Int) = (T : Int) + 8 := by unfold sizeN; rw [if_pos (by omega)]
 have hz0 : ((T : Int) + 8 == 0) = false := by simp; omega
 have he2 : ((b2.toNat : Int) == 255 - (b0.toNat : Int)) = true := by simp; omega
 have he3 : ((b3.toNat : Int) == 255 - (b1.toNat : Int)) = true := by simp; omega
 have he4 : ((b3.toNat : Int) != 255 - (b1.toNat : Int)) = false := by simp [bne]; omega
 have hd8 : decide ((n : Int) < (T : Int) + 8) = true := by simp; omega
 have w0 : IntKind.i64.wrap (b0.toNat : Int) = (b0.toNat : Int) := IntWalk.i64_in _ (by omega)
 have w1 : IntKind.i64.wrap (b1.toNat : Int) = (b1.toNat : Int) := IntWalk.i64_in _ (by omega)
 have w2 : IntKind.i64.wrap (256 * (b0.toNat : Int)) = 256 * (b0.toNat : Int) := IntWalk.i64_in _ (by omega)
 have w3 : IntKind.i64.wrap (256 * (b0.toNat : Int) + (b1.toNat : Int)) = (T : Int) := (IntWalk.i64_in _ (by omega)).trans (by omega)
 have q1 : (T : Int).tdiv 256 = (b0.toNat : Int) := by rw [Int.tdiv_eq_ediv_of_nonneg (by omega)]; omega
 have q2 : (T : Int).tmod 256 = (b1.toNat : Int) := by rw [Int.tmod_eq_emod_of_nonneg (by omega)]; omega
 have hTb : T < 65536 := by omega
 generalize b0.toNat = m0 at *
 generalize b1.toNat = m1 at *
 generalize b2.toNat = m2 at *
 generalize b3.toNat = m3 at *
 have HT := hid hT
 clear hT
 go_enter Tryz.func64, Tryz.ntmps64
 go_wp2_with (fail)
 refine Zo (by kernel_rfl) (by kernel_rfl) ?_
 iterate 11 (first
  | (refine q_op' (v := ?_) (a' := ?_) (by rfl) ?_ ?_ ?_
     rotate_left 2
     ·intro w' hC
      go_simp
      try with_reducible rfl
     ·simp only [Pu]
      try rfl)
  | (refine Zbk (a' := ?_) (by rfl) ?_ ?_
     rotate_left 1
     ·simp only [Pu]
      try rfl))
 refine wpQuiet_nil ?_
 intro w4 hC
 have HG4 := hid (show Grows w w4 from hC)
 have c0 := c0 w4 hC
 have c1 := c1 w4 hC
 have c2 := (hC.cell (p := { block := ad.block, off := ad.off + 2 }) (by have := World.block_lt_of_cell? w _ c2; exact this)).trans c2
 have c3 := (hC.cell (p := { block := ad.block, off := ad.off + 3 }) (by have := World.block_lt_of_cell? w _ c3; exact this)).trans c3
 clear hC
 go_wp2_with (fail)
 refine (Yf _ _ (by omega) (by omega)).mono ?_
 rintro e w5 ⟨rfl, rfl⟩
 go_wp2_with (fail)
 go_ret3
 exact ⟨rfl, HG4.out⟩
set_option maxRecDepth 100000 in
set_option maxHeartbeats 2000000 in
theorem Zsf (ad : Addr) (n c : Nat) (b0 b1 b2 b3 : UInt8) (bs : List UInt8) (w : World) (hs : Sl w (some ad) n c (b0 :: b1 :: b2 :: b3 :: bs)) (hn : n ≤ 140737488351232) (T : Nat) (hT : 256 * b0.toNat + b1.toNat = T) (h1 : 1 ≤ T) (h2 : T ≤ 8192) (x2 : b2.toNat + b0.toNat = 255) (x3 : b3.toNat + b1.toNat = 255) (h8 : T + 8 ≤ n) (x : List UInt8) (hx : (b0 :: b1 :: b2 :: b3 :: bs).take (T + 4) = b0 :: b1 :: b2 :: b3 :: x) (hq : putB x ≠ (b0 :: b1 :: b2 :: b3 :: bs).take (T + 8)) :
 Calls Tryz.prog 64 #[.slice (some ad) n c] w fun e w' => e = .returned (.tuple #[.slice none 0 0, .int .i64 ((T + 8 : Nat) : Int), .int .i64 22]) ∧ Below w.heap.size w w' := by
 have hcap := hs.cap
 have hlen := hs.len
 obtain ⟨h4, _⟩ := Zi hs
 have c0 := fun w' (hw : Grows w w') => (Zi (hs.grow hw)).2.1
 have c1 := fun w' (hw : Grows w w') => (Zi (hs.grow hw)).2.2.1
 have c2 := (Zi hs).2.2.2.1
 have c3 := (Zi hs).2.2.2.2
 have h4' : ((n : Int) < 4) = False := by simp; omega
 have i0 : (0 : Int) < (n : Int) := by omega
 have i1 : (1 : Int) < (n : Int) := by omega
 have i0' : 0 < n := by omega
 have i1' : 1 < n := by omega
 have i2' : 2 < n := by omega
 have i3' : 3 < n := by omega
 have i2 : (2 : Int) < (n : Int) := by omega
 have i3 : (3 : Int) < (n : Int) := by omega
 have HS := hid hs
 have HL := hid hlen
 have p0 := b0.toNat_lt
 have p1 := b1.toNat_lt
 have p2 := b2.toNat_lt
 have p3 := b3.toNat_lt
 clear hs hlen
 have hz : sizeN (T : Int) = (T : Int) + 8 := by unfold sizeN; rw [if_pos (by omega)]
 have hz0 : ((T : Int) + 8 == 0) = false := by simp; omega
 have he2 : ((b2.toNat : Int) == 255 - (b0.toNat : Int)) = true := by simp; omega
 have he3 : ((b3.toNat : Int) == 255 - (b1.toNat : Int)) = true := by simp; omega
 have he4 : ((b3.toNat : Int) != 255 - (b1.toNat : Int)) = false := by simp [bne]; omega
 have hd8 : decide ((n : Int) < (T : Int) + 8) = false := by simp; omega
 have l4 : (4 : Int) ≤ (T : Int) + 4 := by omega
 have l5 : (T : Int) + 4 ≤ (c : Int) := by omega
 have l6 : ¬ c = 4 := by omega
 have hxl : x.length = T := by have h := congrArg List.length hx; rw [List.length_take, HL.out] at h; simp only [List.length_cons] at h; omega
 have hp := HS.out.part (k := 4) (m := T + 4) (by omega) (by omega) l6
 rw [Addr.add_succ' ad 3, hx] at hp
 have hp2 : Sl w (some { block := ad.block, off := ad.off + 4 }) (T + 4 - 4) (c - 4) x := hp
 have HP := hid hp2
 obtain ⟨E, hE⟩ : ∃ E, E = T + 8 := ⟨_, rfl⟩
 have K8 : Hid (IntKind.i64.wrap ((T : Int) + 8) = (E : Int)) := (IntWalk.i64_in _ (by have := b0.toNat_lt; have := b1.toNat_lt; omega)).trans (by omega)
 have HLB : Hid ((0 : Int) ≤ (E : Int) ∧ (E : Int) ≤ (c : Int)) := ⟨by omega, by omega⟩
 have HE := hid hE
 clear hE
 have HXL := hid hxl
 have H8 := hid h8
 clear hp hp2 hxl h8
 have w0 : IntKind.i64.wrap (b0.toNat : Int) = (b0.toNat : Int) := IntWalk.i64_in _ (by omega)
 have w1 : IntKind.i64.wrap (b1.toNat : Int) = (b1.toNat : Int) := IntWalk.i64_in _ (by omega)
 have w2 : IntKind.i64.wrap (256 * (b0.toNat : Int)) = 256 * (b0.toNat : Int) := IntWalk.i64_in _ (by omega)
 have w3 : IntKind.i64.wrap (256 * (b0.toNat : Int) + (b1.toNat : Int)) = (T : Int) := (IntWalk.i64_in _ (by omega)).trans (by omega)
 have q1 : (T : Int).tdiv 256 = (b0.toNat : Int) := by rw [Int.tdiv_eq_ediv_of_nonneg (by omega)]; omega
 have q2 : (T : Int).tmod 256 = (b1.toNat : Int) := by rw [Int.tmod_eq_emod_of_nonneg (by omega)]; omega
 have hTb : T < 65536 := by omega
 generalize b0.toNat = m0 at *
 generalize b1.toNat = m1 at *
 generalize b2.toNat = m2 at *
 generalize b3.toNat = m3 at *
 have HT := hid hT
 clear hT
 go_enter Tryz.func64, Tryz.ntmps64
 go_wp2_with (fail)
 refine Zo (by kernel_rfl) (by kernel_rfl) ?_
 iterate 11 (first
  | (refine q_op' (v := ?_) (a' := ?_) (by rfl) ?_ ?_ ?_
     rotate_left 2
     ·intro w' hC
      go_simp
      try with_reducible rfl
     ·simp only [Pu]
      try rfl)
  | (refine Zbk (a' := ?_) (by rfl) ?_ ?_
     rotate_left 1
     ·simp only [Pu]
      try rfl))
 refine wpQuiet_nil ?_
 intro w4 hC
 have HG4 := hid (show Grows w w4 from hC)
 have c0 := c0 w4 hC
 have c1 := c1 w4 hC
 have c2 := (hC.cell (p := { block := ad.block, off := ad.off + 2 }) (by have := World.block_lt_of_cell? w _ c2; exact this)).trans c2
 have c3 := (hC.cell (p := { block := ad.block, off := ad.off + 3 }) (by have := World.block_lt_of_cell? w _ c3; exact this)).trans c3
 clear hC
 go_wp2_with (fail)
 refine (Yf _ _ (by omega) (by omega)).mono ?_
 rintro e w5 ⟨rfl, rfl⟩
 have hq2 : putB x ≠ (b0 :: b1 :: b2 :: b3 :: bs).take E := by rw [HE.out]; exact hq
 have HQ := hid hq2
 clear hq hq2
 go_wp2_with (first
  | (at_builtin
     refine Zb1 rfl (.tmp 48) (.tmp 52) rfl rfl (Y0 w4) (A := some { block := ad.block, off := ad.off + 4 }) (m := T + 4 - 4) (c := c - 4) rfl (HP.out.grow (Grows.trans HG4.out (Zb _ _))) T (by omega) x rfl (by omega) (Z1 _ _) ?_
     intro A6 c6 w6 hown6 hb6
     have HX6 := hid (Sl.owned hown6)
     have HO6 := hid (Zj hown6 HG4.out.size)
     have HG6 := hid (Grows.trans HG4.out (Below.trans ((Below.refl _ w4).alloc (Nat.le_refl _) _) hb6))
     clear hown6 hb6))
 have HF6 := hid (HS.out.grow HG6.out)
 refine Zf (E := Grows) [Za (.slice A6 T c6), Yv (putB x), Za (.string ⟨(putB x).toArray⟩), Za (.slice (some ad) n c), Za (.int .i64 (T : Int)), Za (.int .i64 (E : Int)), Za (.slice (some ad) E c), Za (.string ⟨((b0 :: b1 :: b2 :: b3 :: bs).take E).toArray⟩), Za (.bool true)] (by kernel_rfl) (by kernel_rfl) (fun _ _ _ => Grows.trans) (Ze _) ?_
 refine f_val _ (by rfl) ?_ ?_
 ·intro w' hC; clear hC; go_simp
 simp only [Pu]
 refine f_new (putB x) 58 #[.slice A6 T c6] (by rfl) (by intro w' hC; clear hC; go_simp) ?_ ?_
 ·intro w' hC _; exact Zfd A6 T c6 x w' (HX6.out.grow hC) (by unfold maxLen; omega)
 intro A7 c7
 simp only [Pu]
 refine Y6 _ (by rfl) ?_ ?_
 ·intro w' hC hk; exact Z2 rfl rfl (Known.get hk 0 rfl (by rfl))
 simp only [Pu]
 iterate 2
  refine f_val _ (by rfl) ?_ ?_
  ·intro w' hC; clear hC; go_simp
  simp only [Pu]
 refine f_val _ (by rfl) ?_ ?_
 ·intro w' hC; have hk8 := K8.out; clear hC; go_simp
 simp only [Pu]
 refine f_val _ (by rfl) ?_ ?_
 ·intro w' hC; have hlb := HLB.out; obtain ⟨l0, l1⟩ := hlb; clear hC; go_simp
 simp only [Pu]
 refine Y6 _ (by rfl) ?_ ?_
 ·intro w' hC _; exact Z2 rfl rfl ((HF6.out.grow hC).first (by have h1 := HE.out; have h2 := H8.out; omega))
 simp only [Pu]
 refine f_val _ (by rfl) ?_ ?_
 ·intro w' hC; have hq := HQ.out; clear hC; go_simp
 simp only [Pu]
 intro w9 hC _
 have HCw9 := hid hC
 clear hC
 go_wp2_with (fail)
 go_ret3
 exact ⟨rfl, Grows.trans HG6.out HCw9.out⟩
set_option maxRecDepth 100000 in
set_option maxHeartbeats 2000000 in
theorem rf_ok (ad : Addr) (n c : Nat) (b0 b1 b2 b3 : UInt8) (bs : List UInt8) (w : World) (hs : Sl w (some ad) n c (b0 :: b1 :: b2 :: b3 :: bs)) (hn : n ≤ 140737488351232) (T : Nat) (hT : 256 * b0.toNat + b1.toNat = T) (h1 : 1 ≤ T) (h2 : T ≤ 8192) (x2 : b2.toNat + b0.toNat = 255) (x3 : b3.toNat + b1.toNat = 255) (h8 : T + 8 ≤ n) (x : List UInt8) (hx : (b0 :: b1 :: b2 :: b3 :: bs).take (T + 4) = b0 :: b1 :: b2 :: b3 :: x) (hq : putB x = (b0 :: b1 :: b2 :: b3 :: bs).take (T + 8)) :
 Calls Tryz.prog 64 #[.slice (some ad) n c] w fun e w' => ∃ A' c', e = .returned (.tuple #[.slice A' T c', .int .i64 ((T + 8 : Nat) : Int), .int .i64 0]) ∧ w'.ownsRow w.heap.size 5 1 (.slice A' T c') T (x.map byteV) ∧ Below w.heap.size w w' := by
 have hcap := hs.cap
 have hlen := hs.len
 obtain ⟨h4, _⟩ := Zi hs
 have c0 := fun w' (hw : Grows w w') => (Zi (hs.grow hw)).2.1
 have c1 := fun w' (hw : Grows w w') => (Zi (hs.grow hw)).2.2.1
 have c2 := (Zi hs).2.2.2.1
 have c3 := (Zi hs).2.2.2.2
 have h4' : ((n : Int) < 4) = False := by simp; omega
 have i0 : (0 : Int) < (n : Int) := by omega
 have i1 : (1 : Int) < (n : Int) := by omega
 have i0' : 0 < n := by omega
 have i1' : 1 < n := by omega
 have i2' : 2 < n := by omega
 have i3' : 3 < n := by omega
 have i2 : (2 : Int) < (n : Int) := by omega
 have i3 : (3 : Int) < (n : Int) := by omega
 have HS := hid hs
 have HL := hid hlen
 have p0 := b0.toNat_lt
 have p1 := b1.toNat_lt
 have p2 := b2.toNat_lt
 have p3 := b3.toNat_lt
 clear hs hlen
 have hz : sizeN (T : Int) = (T : Int) + 8 := by unfold sizeN; rw [if_pos (by omega)]
 have hz0 : ((T : Int) + 8 == 0) = false := by simp; omega
 have he2 : ((b2.toNat : Int) == 255 - (b0.toNat : Int)) = true := by simp; omega
 have he3 : ((b3.toNat : Int) == 255 - (b1.toNat : Int)) = true := by simp; omega
 have he4 : ((b3.toNat : Int) != 255 - (b1.toNat : Int)) = false := by simp [bne]; omega
 have hd8 : decide ((n : Int) < (T : Int) + 8) = false := by simp; omega
 have l4 : (4 : Int) ≤ (T : Int) + 4 := by omega
 have l5 : (T : Int) + 4 ≤ (c : Int) := by omega
 have l6 : ¬ c = 4 := by omega
 have hxl : x.length = T := by have h := congrArg List.length hx; rw [List.length_take, HL.out] at h; simp only [List.length_cons] at h; omega
 have hp := HS.out.part (k := 4) (m := T + 4) (by omega) (by omega) l6
 rw [Addr.add_succ' ad 3, hx] at hp
 have hp2 : Sl w (some { block := ad.block, off := ad.off + 4 }) (T + 4 - 4) (c - 4) x := hp
 have HP := hid hp2
 obtain ⟨E, hE⟩ : ∃ E, E = T + 8 := ⟨_, rfl⟩
 have K8 : Hid (IntKind.i64.wrap ((T : Int) + 8) = (E : Int)) := (IntWalk.i64_in _ (by have := b0.toNat_lt; have := b1.toNat_lt; omega)).trans (by omega)
 have HLB : Hid ((0 : Int) ≤ (E : Int) ∧ (E : Int) ≤ (c : Int)) := ⟨by omega, by omega⟩
 have HE := hid hE
 clear hE
 have HXL := hid hxl
 have H8 := hid h8
 clear hp hp2 hxl h8
 have w0 : IntKind.i64.wrap (b0.toNat : Int) = (b0.toNat : Int) := IntWalk.i64_in _ (by omega)
 have w1 : IntKind.i64.wrap (b1.toNat : Int) = (b1.toNat : Int) := IntWalk.i64_in _ (by omega)
 have w2 : IntKind.i64.wrap (256 * (b0.toNat : Int)) = 256 * (b0.toNat : Int) := IntWalk.i64_in _ (by omega)
 have w3 : IntKind.i64.wrap (256 * (b0.toNat : Int) + (b1.toNat : Int)) = (T : Int) := (IntWalk.i64_in _ (by omega)).trans (by omega)
 have q1 : (T : Int).tdiv 256 = (b0.toNat : Int) := by rw [Int.tdiv_eq_ediv_of_nonneg (by omega)]; omega
 have q2 : (T : Int).tmod 256 = (b1.toNat : Int) := by rw [Int.tmod_eq_emod_of_nonneg (by omega)]; omega
 have hTb : T < 65536 := by omega
 generalize b0.toNat = m0 at *
 generalize b1.toNat = m1 at *
 generalize b2.toNat = m2 at *
 generalize b3.toNat = m3 at *
 have HT := hid hT
 clear hT
 go_enter Tryz.func64, Tryz.ntmps64
 go_wp2_with (fail)
 refine Zo (by kernel_rfl) (by kernel_rfl) ?_
 iterate 11 (first
  | (refine q_op' (v := ?_) (a' := ?_) (by rfl) ?_ ?_ ?_
     rotate_left 2
     ·intro w' hC
      go_simp
      try with_reducible rfl
     ·simp only [Pu]
      try rfl)
  | (refine Zbk (a' := ?_) (by rfl) ?_ ?_
     rotate_left 1
     ·simp only [Pu]
      try rfl))
 refine wpQuiet_nil ?_
 intro w4 hC
 have HG4 := hid (show Grows w w4 from hC)
 have c0 := c0 w4 hC
 have c1 := c1 w4 hC
 have c2 := (hC.cell (p := { block := ad.block, off := ad.off + 2 }) (by have := World.block_lt_of_cell? w _ c2; exact this)).trans c2
 have c3 := (hC.cell (p := { block := ad.block, off := ad.off + 3 }) (by have := World.block_lt_of_cell? w _ c3; exact this)).trans c3
 clear hC
 go_wp2_with (fail)
 refine (Yf _ _ (by omega) (by omega)).mono ?_
 rintro e w5 ⟨rfl, rfl⟩
 have hq2 : putB x = (b0 :: b1 :: b2 :: b3 :: bs).take E := by rw [HE.out]; exact hq
 have HQ := hid hq2
 clear hq hq2
 go_wp2_with (first
  | (at_builtin
     refine Zb1 rfl (.tmp 48) (.tmp 52) rfl rfl (Y0 w4) (A := some { block := ad.block, off := ad.off + 4 }) (m := T + 4 - 4) (c := c - 4) rfl (HP.out.grow (Grows.trans HG4.out (Zb _ _))) T (by omega) x rfl (by omega) (Z1 _ _) ?_
     intro A6 c6 w6 hown6 hb6
     have HX6 := hid (Sl.owned hown6)
     have HO6 := hid (Zj hown6 HG4.out.size)
     have HG6 := hid (Grows.trans HG4.out (Below.trans ((Below.refl _ w4).alloc (Nat.le_refl _) _) hb6))
     clear hown6 hb6))
 have HF6 := hid (HS.out.grow HG6.out)
 refine Zf (E := Grows) [Za (.slice A6 T c6), Yv (putB x), Za (.string ⟨(putB x).toArray⟩), Za (.slice (some ad) n c), Za (.int .i64 (T : Int)), Za (.int .i64 (E : Int)), Za (.slice (some ad) E c), Za (.string ⟨((b0 :: b1 :: b2 :: b3 :: bs).take E).toArray⟩), Za (.bool false)] (by kernel_rfl) (by kernel_rfl) (fun _ _ _ => Grows.trans) (Ze _) ?_
 refine f_val _ (by rfl) ?_ ?_
 ·intro w' hC; clear hC; go_simp
 simp only [Pu]
 refine f_new (putB x) 58 #[.slice A6 T c6] (by rfl) (by intro w' hC; clear hC; go_simp) ?_ ?_
 ·intro w' hC _; exact Zfd A6 T c6 x w' (HX6.out.grow hC) (by unfold maxLen; omega)
 intro A7 c7
 simp only [Pu]
 refine Y6 _ (by rfl) ?_ ?_
 ·intro w' hC hk; exact Z2 rfl rfl (Known.get hk 0 rfl (by rfl))
 simp only [Pu]
 iterate 2
  refine f_val _ (by rfl) ?_ ?_
  ·intro w' hC; clear hC; go_simp
  simp only [Pu]
 refine f_val _ (by rfl) ?_ ?_
 ·intro w' hC; have hk8 := K8.out; clear hC; go_simp
 simp only [Pu]
 refine f_val _ (by rfl) ?_ ?_
 ·intro w' hC; have hlb := HLB.out; obtain ⟨l0, l1⟩ := hlb; clear hC; go_simp
 simp only [Pu]
 refine Y6 _ (by rfl) ?_ ?_
 ·intro w' hC _; exact Z2 rfl rfl ((HF6.out.grow hC).first (by have h1 := HE.out; have h2 := H8.out; omega))
 simp only [Pu]
 refine f_val _ (by rfl) ?_ ?_
 ·intro w' hC; have hq := HQ.out; clear hC; go_simp
 simp only [Pu]
 intro w9 hC _
 have HCw9 := hid hC
 clear hC
 go_wp2_with (fail)
 go_ret3
 exact ⟨A6, c6, rfl, Zd HO6.out HCw9.out, Grows.trans HG6.out HCw9.out⟩
theorem Zoc (b0 b1 b2 b3 : UInt8) (T : Nat) (hT : 256 * b0.toNat + b1.toNat = T) : [b0, b1, b2, b3] = headB T ↔ b2.toNat + b0.toNat = 255 ∧ b3.toNat + b1.toNat = 255 := by
 have l0 := b0.toNat_lt
 have l1 := b1.toNat_lt
 have l2 := b2.toNat_lt
 have l3 := b3.toNat_lt
 unfold headB
 simp only [List.cons.injEq, and_true]
 constructor
 ·rintro ⟨_, _, h2, h3⟩
  have h2 := congrArg UInt8.toNat h2
  have h3 := congrArg UInt8.toNat h3
  rw [UInt8.toNat_ofNat'] at h2 h3
  omega
 ·rintro ⟨h2, h3⟩
  refine ⟨?_, ?_, ?_, ?_⟩ <;> apply UInt8.toNat_inj.1 <;> rw [UInt8.toNat_ofNat'] <;> omega
theorem Zc8 (A : Option Addr) (n c : Nat) (bs : List UInt8) (w : World) (hs : Sl w A n c bs) (hn : n ≤ 140737488351232) :
 Calls Tryz.prog 64 #[.slice A n c] w fun e w' => ∃ A' m c', e = .returned (.tuple #[.slice A' m c', .int .i64 ((Zg bs).2.1 : Nat), .int .i64 ((Zg bs).2.2 : Nat)]) ∧ w'.ownsRow w.heap.size 5 1 (.slice A' m c') m ((Zg bs).1.map byteV) ∧ Below w.heap.size w w' := by
 have hl := hs.len
 by_cases h4 : n < 4
 ·refine (Zqc A n c w h4).mono ?_
  rintro e w' ⟨rfl, hb⟩
  have hf : Zg bs = ([], 0, 21) := by unfold Zg; rw [if_pos (by omega)]
  rw [hf]
  exact ⟨none, 0, 0, rfl, World.ownsRow_nil _ _ _ _, hb⟩
 ·match bs, hl with
  | [], hl => simp at hl; omega
  | [_], hl => simp at hl; omega
  | [_, _], hl => simp at hl; omega
  | [_, _, _], hl => simp at hl; omega
  | b0 :: b1 :: b2 :: b3 :: bs, hl =>
    obtain ⟨ad, rfl⟩ : ∃ ad, A = some ad := by
     obtain ⟨ad, h, _⟩ := hs.bytes.spot (k := 0) (by omega)
     exact ⟨ad, h⟩
    have ht : toldN (b0 :: b1 :: b2 :: b3 :: bs) = 256 * b0.toNat + b1.toNat := rfl
    have hlike := Zoc b0 b1 b2 b3 _ rfl
    generalize hT : 256 * b0.toNat + b1.toNat = T at *
    have hk : (b0 :: b1 :: b2 :: b3 :: bs).take 4 = [b0, b1, b2, b3] := rfl
    have h4' : ¬ (b0 :: b1 :: b2 :: b3 :: bs).length < 4 := by omega
    by_cases hr : 1 ≤ T ∧ T ≤ 8192
    ·by_cases hm : [b0, b1, b2, b3] = headB T
     ·have hcond : ¬ (¬ (1 ≤ T ∧ T ≤ 8192) ∨ [b0, b1, b2, b3] ≠ headB T) := fun h => h.elim (fun h => h hr) (fun h => h hm)
      obtain ⟨m2, m3⟩ := hlike.1 hm
      by_cases h8 : n < T + 8
      ·refine (Zse ad n c b0 b1 b2 b3 bs w hs hn T hT hr.1 hr.2 m2 m3 h8).mono ?_
       rintro e w' ⟨rfl, hb⟩
       have hf : Zg (b0 :: b1 :: b2 :: b3 :: bs) = ([], 0, 21) := by unfold Zg; rw [if_neg h4', ht, hk, if_neg hcond, if_pos (by omega)]
       rw [hf]
       exact ⟨none, 0, 0, rfl, World.ownsRow_nil _ _ _ _, hb⟩
      ·have h8' : ¬ (b0 :: b1 :: b2 :: b3 :: bs).length < T + 8 := by omega
       have hxe : (b0 :: b1 :: b2 :: b3 :: bs).take (T + 4) = b0 :: b1 :: b2 :: b3 :: bs.take T := rfl
       have hxd : ((b0 :: b1 :: b2 :: b3 :: bs).drop 4).take T = bs.take T := rfl
       have hxl : (bs.take T).length = T := by rw [List.length_take]; simp only [List.length_cons] at hl; omega
       have hput : putB (bs.take T) = (b0 :: b1 :: b2 :: b3 :: bs).take (T + 4) ++ tailB ((b0 :: b1 :: b2 :: b3 :: bs).take (T + 4)) := by
        unfold putB
        rw [hxl, if_pos hr]
        unfold Zbo
        rw [hxl, ← hm, hxe]
        rfl
       have hsplit : (b0 :: b1 :: b2 :: b3 :: bs).take (T + 8) = (b0 :: b1 :: b2 :: b3 :: bs).take (T + 4) ++ ((b0 :: b1 :: b2 :: b3 :: bs).drop (T + 4)).take 4 := by
        rw [← List.take_add]
       by_cases hx : ((b0 :: b1 :: b2 :: b3 :: bs).drop (T + 4)).take 4 = tailB ((b0 :: b1 :: b2 :: b3 :: bs).take (T + 4))
       ·refine (rf_ok ad n c b0 b1 b2 b3 bs w hs hn T hT hr.1 hr.2 m2 m3 (by omega) (bs.take T) hxe (by rw [hput, hsplit, hx])).mono ?_
        rintro e w' ⟨A', c', rfl, hs', hb⟩
        have hf : Zg (b0 :: b1 :: b2 :: b3 :: bs) = (bs.take T, T + 8, 0) := by
         unfold Zg; rw [if_neg h4', ht, hk, if_neg hcond, if_neg h8', if_neg (fun h => h hx), hxd]
        rw [hf]
        exact ⟨A', T, c', rfl, hs', hb⟩
       ·refine (Zsf ad n c b0 b1 b2 b3 bs w hs hn T hT hr.1 hr.2 m2 m3 (by omega) (bs.take T) hxe (fun h => hx ?_)).mono ?_
        ·rw [hput, hsplit] at h
         exact (List.append_cancel_left h).symm
        ·rintro e w' ⟨rfl, hb⟩
         have hf : Zg (b0 :: b1 :: b2 :: b3 :: bs) = ([], T + 8, 22) := by unfold Zg; rw [if_neg h4', ht, hk, if_neg hcond, if_neg h8', if_pos hx]
         rw [hf]
         exact ⟨none, 0, 0, rfl, World.ownsRow_nil _ _ _ _, hb⟩
     ·have hf : Zg (b0 :: b1 :: b2 :: b3 :: bs) = ([], 0, 22) := by unfold Zg; rw [if_neg h4', ht, hk, if_pos (.inr hm)]
      by_cases m2 : b2.toNat + b0.toNat = 255
      ·have m3 : ¬ b3.toNat + b1.toNat = 255 := fun h => hm (hlike.2 ⟨m2, h⟩)
       refine (Zqd ad n c b0 b1 b2 b3 bs w hs hn T hT hr.1 hr.2 m2 m3).mono ?_
       rintro e w' ⟨rfl, hb⟩
       rw [hf]
       exact ⟨none, 0, 0, rfl, World.ownsRow_nil _ _ _ _, hb⟩
      ·refine (Zsd ad n c b0 b1 b2 b3 bs w hs hn T hT hr.1 hr.2 m2).mono ?_
       rintro e w' ⟨rfl, hb⟩
       rw [hf]
       exact ⟨none, 0, 0, rfl, World.ownsRow_nil _ _ _ _, hb⟩
    ·refine (Zru ad n c b0 b1 b2 b3 bs w hs hn T hT hr).mono ?_
     rintro e w' ⟨rfl, hb⟩
     have hf : Zg (b0 :: b1 :: b2 :: b3 :: bs) = ([], 0, 22) := by unfold Zg; rw [if_neg h4', ht, if_pos (.inl hr)]
     rw [hf]
     exact ⟨none, 0, 0, rfl, World.ownsRow_nil _ _ _ _, hb⟩
theorem Yc (A : Option Addr) (n c : Nat) (bs : List UInt8) (w : World) (hs : Sl w A n c bs) (hn : n ≤ 140737488351232) :
 Calls Tryz.prog 64 #[.slice A n c] w fun e w' => ∃ A' m c', e = .returned (.tuple #[.slice A' m c', .int .i64 ((Zg bs).2.1 : Nat), .int .i64 ((Zg bs).2.2 : Nat)]) ∧ Sl w' A' m c' (Zg bs).1 ∧ Below w.heap.size w w' :=
 (Zc8 A n c bs w hs hn).mono fun _ _ ⟨A', m, c', he, ho, hb⟩ => ⟨A', m, c', he, Sl.owned ho, hb⟩
end Go.Proofs.YtlldcogkcjnejaaGreat
