/-
  The walks of frame.Size, head and tail; arrays of four bytes.
-/
import Derived.Test.YtdjlhdeejpndcaaOn
import Derived.Test.YtdjlhdeejpndcaaFramePlain
import Derived.Test.YtdjlhdeejpndcaaSlices
import Derived.IntWalk
import Derived.OwnWalk
namespace Go.Proofs.Ytdjlhdeejpndcaa
open Go.RowKit

set_option maxHeartbeats 400000 in
theorem fsize_any (n : Int) (w : World) (h1 : -9223372036854775808 ≤ n) (h2 : n ≤ 9223372036854775807) :
    Calls Try.prog 31 #[.int .i64 n] w fun e w' => e = .returned (.int .i64 (sizeN n)) ∧ w = w' := by
  by_cases ha : n < 1
  · have hd : decide (n < 1) = true := by simp; omega
    go_enter Try.func31, Try.ntmps31
    go_wp2
    go_ret
    exact ⟨ret_int (by unfold sizeN; rw [if_neg (by omega)]), rfl⟩
  · have hd : decide (n < 1) = false := by simp; omega
    by_cases hb : 8192 < n
    · have hd2 : decide (8192 < n) = true := by simp; omega
      go_enter Try.func31, Try.ntmps31
      go_wp2
      go_ret
      exact ⟨ret_int (by unfold sizeN; rw [if_neg (by omega)]), rfl⟩
    · have hd2 : decide (8192 < n) = false := by simp; omega
      go_enter Try.func31, Try.ntmps31
      go_wp2
      go_ret
      exact ⟨ret_int (by unfold sizeN; rw [if_pos (by omega)]; omega), rfl⟩

/-- An array of four bytes. -/
def arr4 (l : List UInt8) : Value := .agg (l.map byteV).toArray

theorem not_u8 (x : Nat) (h : x < 256) : bits BinOp.xor IntKind.u8 IntKind.u8.max (x : Int) = ((255 - x : Nat) : Int) := by
  have h1 : (BitVec.allOnes 8 ^^^ BitVec.ofNat 8 x).toNat = 255 - x := by
    rw [BitVec.allOnes_xor, BitVec.toNat_not, BitVec.toNat_ofNat, Nat.mod_eq_of_lt h]
  rw [BitVec.toNat_xor, BitVec.toNat_ofNat, Nat.mod_eq_of_lt h] at h1
  rw [← h1]
  exact u8_xor 255 x (by omega) h
theorem byteV_of {x : Int} {n : Nat} (h : x = ((n % 256 : Nat) : Int)) : Value.int .u8 x = byteV (UInt8.ofNat n) := by
  rw [h, byteV, UInt8.toNat_ofNat']

set_option maxRecDepth 100000 in
set_option maxHeartbeats 400000 in
theorem fhead_any (n : Nat) (w : World) (hn : n < 65536) :
    Calls Try.prog 32 #[.int .i64 (n : Int)] w fun e w' => e = .returned (arr4 (headB n)) ∧ Below w.heap.size w w' := by
  go_enter Try.func32, Try.ntmps32
  go_wp2_with (fail)
  refine bodyPost_ret (results_cell_row rfl _ _ w.heap.size _ _ (0, 0) _ rfl (heap_alloc_new w _) Try.underlying69 rfl (by kernel_rfl)) rfl ?_
  refine ⟨?_, (Below.refl _ _).alloc (Nat.le_refl _) _⟩
  have e1 : ((n : Int) / 256) = ((n / 256 : Nat) : Int) := by omega
  have e2 : ((n : Int) % 256) = ((n % 256 : Nat) : Int) := by omega
  rw [e1, e2, not_u8 _ (by omega), not_u8 _ (by omega), byteV_of (n := n / 256) (by omega), byteV_of (n := n) (by omega), byteV_of (n := 255 - n / 256) (by omega), byteV_of (n := 255 - n % 256) (by omega)]
  unfold arr4 headB
  rw [Nat.mod_eq_of_lt (show n / 256 < 256 by omega)]
  rfl

set_option maxRecDepth 100000 in
set_option maxHeartbeats 400000 in
theorem ftail_any (A : Option Addr) (n c : Nat) (bs : List UInt8) (w : World) (hs : Sl w A n c bs) (hn : n ≤ maxLen) :
    Calls Try.prog 33 #[.slice A n c] w fun e w' => e = .returned (arr4 (tailB bs)) ∧ Below w.heap.size w w' := by
  have HS := Lib.hid hs
  clear hs
  go_enter Try.func33, Try.ntmps33
  go_wp2_with (fail)
  refine (table_any _).mono ?_
  rintro e w1 ⟨rfl, hb1⟩
  have hG := ((Below.refl _ w).alloc (Nat.le_refl _) _).trans (hb1.mono (by simp))
  have hcell : Whole w1 w.heap.size 69 #[.int .u8 0, .int .u8 0, .int .u8 0, .int .u8 0] := Whole.below (Whole.made w _ _) hb1 (by simp)
  have HG := Lib.hid hG
  have HC := Lib.hid hcell
  clear hb1 hG hcell
  go_wp2_with (fail)
  refine (of_any tabN tabN_all A n c bs w1 (Grows.bytes HG.out HS.out.bytes) hn).mono ?_
  rintro e w2 ⟨rfl, hb2⟩
  have hcell : Whole w2 w.heap.size 69 #[.int .u8 0, .int .u8 0, .int .u8 0, .int .u8 0] := Whole.below HC.out hb2 HC.out.lt
  have hlt := onN_lt tabN 0 bs
  have hG2 := Grows.trans HG.out hb2
  have HG2 := Lib.hid hG2
  have HC2 := Lib.hid hcell
  clear hcell hb2 hG2 HC HG
  generalize hs : onN tabN 0 bs = s at *
  have HO := Lib.hid hs
  clear hs
  have c0 := HC2.out.cell 0
  have c1 := HC2.out.cell 1
  have c2 := HC2.out.cell 2
  have c3 := HC2.out.cell 3
  have f0 := HC2.out.free 0
  have f1 := HC2.out.free 1
  have f2 := HC2.out.free 2
  have f3 := HC2.out.free 3
  simp only [List.getElem?_toArray, List.getElem?_cons_zero, List.getElem?_cons_succ] at c0 c1 c2 c3
  go_wp2_with (fail)
  have hw := (((HC2.out.put 0 (.int .u8 ((s : Int) % 256))).put 1 (.int .u8 ((s : Int) / 256 % 256))).put 2 (.int .u8 ((s : Int) / 65536 % 256))).put 3 (.int .u8 ((s : Int) / 16777216))
  refine bodyPost_ret (results_cell_row rfl _ _ w.heap.size _ _ (0, 0) _ rfl hw Try.underlying69 rfl (by kernel_rfl)) rfl ?_
  refine ⟨?_, (((HG2.out.setCell (Nat.le_refl _) _).setCell (Nat.le_refl _) _).setCell (Nat.le_refl _) _).setCell (Nat.le_refl _) _⟩
  unfold tailB lowB arr4
  show Ending.returned (.agg #[.int .u8 ((s : Int) % 256), .int .u8 ((s : Int) / 256 % 256), .int .u8 ((s : Int) / 65536 % 256), .int .u8 ((s : Int) / 16777216)]) = _
  rw [HO.out, byteV_of (n := s) (by omega), byteV_of (n := s / 256) (by omega), byteV_of (n := s / 65536) (by omega), byteV_of (n := s / 16777216) (by omega)]
  rfl

/-- Four bytes, told apart. -/
theorem four {l : List UInt8} (h : l.length = 4) : ∃ b0 b1 b2 b3, l = [b0, b1, b2, b3] := by
  match l, h with
  | [b0, b1, b2, b3], _ => exact ⟨b0, b1, b2, b3, rfl⟩
/-- An array of four bytes, written out. -/
theorem arr4_is (b0 b1 b2 b3 : UInt8) : arr4 [b0, b1, b2, b3] = .agg #[.int .u8 (b0.toNat : Nat), .int .u8 (b1.toNat : Nat), .int .u8 (b2.toNat : Nat), .int .u8 (b3.toNat : Nat)] := rfl
theorem row4 {w : World} {g : Nat} {t : TypeId} {b0 b1 b2 b3 : UInt8} (h : Whole w g t #[.int .u8 (b0.toNat : Nat), .int .u8 (b1.toNat : Nat), .int .u8 (b2.toNat : Nat), .int .u8 (b3.toNat : Nat)]) :
    Row w w.heap.size (some ⟨g, 0, none⟩) 4 ([b0, b1, b2, b3].map byteV) :=
  ⟨rfl, fun k v hv => ⟨⟨g, 0, none⟩, rfl, h.lt, by
    rw [show (⟨g, 0, none⟩ : Addr).add k = ⟨g, k, none⟩ by unfold Addr.add; split <;> simp_all, h.cell k]
    simpa [byteV] using hv⟩⟩


/-- The first four bytes, and what they tell. -/
theorem first_cells {w : World} {ad : Addr} {n c : Nat} {b0 b1 b2 b3 : UInt8} {bs : List UInt8} (hs : Sl w (some ad) n c (b0 :: b1 :: b2 :: b3 :: bs)) :
    4 ≤ n ∧ w.cell? ad = some (.int .u8 (b0.toNat : Nat)) ∧ w.cell? { block := ad.block, off := ad.off + 1 } = some (.int .u8 (b1.toNat : Nat)) ∧ w.cell? { block := ad.block, off := ad.off + 2 } = some (.int .u8 (b2.toNat : Nat)) ∧ w.cell? { block := ad.block, off := ad.off + 3 } = some (.int .u8 (b3.toNat : Nat)) := by
  have h4 : 4 ≤ n := by have := hs.len; simp at this; omega
  obtain ⟨_, e0, hab, c0⟩ := hs.bytes.spot (k := 0) (by omega)
  injection e0 with e0; subst e0
  obtain ⟨_, e1, _, c1⟩ := hs.bytes.spot (k := 1) (by omega)
  injection e1 with e1; subst e1
  obtain ⟨_, e2, _, c2⟩ := hs.bytes.spot (k := 2) (by omega)
  injection e2 with e2; subst e2
  obtain ⟨_, e3, _, c3⟩ := hs.bytes.spot (k := 3) (by omega)
  injection e3 with e3; subst e3
  simp only [List.getD_cons_zero, List.getD_cons_succ, Addr.add_zero', Addr.add_succ', Nat.zero_add, Nat.reduceAdd] at c0 c1 c2 c3
  exact ⟨h4, c0, c1, c2, c3⟩
end Go.Proofs.Ytdjlhdeejpndcaa
