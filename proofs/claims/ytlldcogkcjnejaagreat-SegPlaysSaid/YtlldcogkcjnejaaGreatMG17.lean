import Derived.Test.YtlldcogkcjnejaaGreatMG16
import Derived.Test.YtlldcogkcjnejaaGreatMG00
import Derived.IntWalk
import Derived.OwnWalk
import Derived.Test.YtlldcogkcjnejaaGreatMG01
namespace Go.Proofs.YtlldcogkcjnejaaGreat
def sizeN (n : Int) : Int := if 1 ≤ n ∧ n ≤ 8192 then n + 8 else 0
def headB (n : Nat) : List UInt8 := [UInt8.ofNat (n / 256), UInt8.ofNat n, UInt8.ofNat (255 - n / 256 % 256), UInt8.ofNat (255 - n % 256)]
def lowB (s : Nat) : List UInt8 := [UInt8.ofNat s, UInt8.ofNat (s / 256), UInt8.ofNat (s / 65536), UInt8.ofNat (s / 16777216)]
def tailB (bs : List UInt8) : List UInt8 := lowB (onN tabN 0 bs)
def Zbo (b : List UInt8) : List UInt8 := headB b.length ++ b ++ tailB (headB b.length ++ b)
def putB (b : List UInt8) : List UInt8 := if 1 ≤ b.length ∧ b.length ≤ 8192 then Zbo b else []
theorem Y1 (n : Nat) : (headB n).length = 4 := rfl
theorem Zan (b : List UInt8) : (tailB b).length = 4 := rfl
theorem Za5 (b : List UInt8) : (Zbo b).length = b.length + 8 := by
 unfold Zbo
 rw [List.length_append, List.length_append, Y1, Zan]
 omega
def toldN (b : List UInt8) : Nat := 256 * (b.getD 0 0).toNat + (b.getD 1 0).toNat
def Zg (b : List UInt8) : List UInt8 × Nat × Nat :=
 if b.length < 4 then ([], 0, 21)
 else if ¬ (1 ≤ toldN b ∧ toldN b ≤ 8192) ∨ b.take 4 ≠ headB (toldN b) then ([], 0, 22)
 else if b.length < toldN b + 8 then ([], 0, 21)
 else if (b.drop (toldN b + 4)).take 4 ≠ tailB (b.take (toldN b + 4)) then ([], toldN b + 8, 22)
 else ((b.drop 4).take (toldN b), toldN b + 8, 0)
open Go.RowKit
set_option maxHeartbeats 400000 in
theorem Jn (n : Int) (w : World) (h1 : -9223372036854775808 ≤ n) (h2 : n ≤ 9223372036854775807) :
 Calls Tryz.prog 89 #[.int .i64 n] w fun e w' => e = .returned (.int .i64 (sizeN n)) ∧ w = w' := by
 by_cases ha : n < 1
 ·have hd : decide (n < 1) = true := by simp; omega
  go_enter Tryz.func89, Tryz.ntmps89
  go_wp2
  go_ret
  exact ⟨Za1 (by unfold sizeN; rw [if_neg (by omega)]), rfl⟩
 ·have hd : decide (n < 1) = false := by simp; omega
  by_cases hb : 8192 < n
  ·have hd2 : decide (8192 < n) = true := by simp; omega
   go_enter Tryz.func89, Tryz.ntmps89
   go_wp2
   go_ret
   exact ⟨Za1 (by unfold sizeN; rw [if_neg (by omega)]), rfl⟩
  ·have hd2 : decide (8192 < n) = false := by simp; omega
   go_enter Tryz.func89, Tryz.ntmps89
   go_wp2
   go_ret
   exact ⟨Za1 (by unfold sizeN; rw [if_pos (by omega)]; omega), rfl⟩
def arr4 (l : List UInt8) : Value := .agg (l.map byteV).toArray
theorem Zqp (x : Nat) (h : x < 256) : bits BinOp.xor IntKind.u8 IntKind.u8.max (x : Int) = ((255 - x : Nat) : Int) := by
 have h1 : (BitVec.allOnes 8 ^^^ BitVec.ofNat 8 x).toNat = 255 - x := by
  rw [BitVec.allOnes_xor, BitVec.toNat_not, BitVec.toNat_ofNat, Nat.mod_eq_of_lt h]
 rw [BitVec.toNat_xor, BitVec.toNat_ofNat, Nat.mod_eq_of_lt h] at h1
 rw [← h1]
 exact Zqk 255 x (by omega) h
theorem Yd {x : Int} {n : Nat} (h : x = ((n % 256 : Nat) : Int)) : Value.int .u8 x = byteV (UInt8.ofNat n) := by
 rw [h, byteV, UInt8.toNat_ofNat']
set_option maxRecDepth 100000 in
set_option maxHeartbeats 400000 in
theorem Zbm (n : Nat) (w : World) (hn : n < 65536) :
 Calls Tryz.prog 90 #[.int .i64 (n : Int)] w fun e w' => e = .returned (arr4 (headB n)) ∧ Below w.heap.size w w' := by
 go_enter Tryz.func90, Tryz.ntmps90
 go_wp2_with (fail)
 refine bodyPost_ret (results_cell_row rfl _ _ w.heap.size _ _ (0, 0) _ rfl (heap_alloc_new w _) Tryz.underlying131 rfl (by kernel_rfl)) rfl ?_
 refine ⟨?_, (Below.refl _ _).alloc (Nat.le_refl _) _⟩
 have e1 : ((n : Int) / 256) = ((n / 256 : Nat) : Int) := by omega
 have e2 : ((n : Int) % 256) = ((n % 256 : Nat) : Int) := by omega
 rw [e1, e2, Zqp _ (by omega), Zqp _ (by omega), Yd (n := n / 256) (by omega), Yd (n := n) (by omega), Yd (n := 255 - n / 256) (by omega), Yd (n := 255 - n % 256) (by omega)]
 unfold arr4 headB
 rw [Nat.mod_eq_of_lt (show n / 256 < 256 by omega)]
 rfl
set_option maxRecDepth 100000 in
set_option maxHeartbeats 400000 in
theorem Zd0 (A : Option Addr) (n c : Nat) (bs : List UInt8) (w : World) (hs : Sl w A n c bs) (hn : n ≤ maxLen) :
 Calls Tryz.prog 91 #[.slice A n c] w fun e w' => e = .returned (arr4 (tailB bs)) ∧ Below w.heap.size w w' := by
 have HS := Lib.hid hs
 clear hs
 go_enter Tryz.func91, Tryz.ntmps91
 go_wp2_with (fail)
 refine (Zm8 _).mono ?_
 rintro e w1 ⟨rfl, hb1⟩
 have hG := ((Below.refl _ w).alloc (Nat.le_refl _) _).trans (hb1.mono (by simp))
 have hcell : Whole w1 w.heap.size 131 #[.int .u8 0, .int .u8 0, .int .u8 0, .int .u8 0] := Whole.below (Whole.made w _ _) hb1 (by simp)
 have HG := Lib.hid hG
 have HC := Lib.hid hcell
 clear hb1 hG hcell
 go_wp2_with (fail)
 refine (Zr5 tabN tabN_all A n c bs w1 (Grows.bytes HG.out HS.out.bytes) hn).mono ?_
 rintro e w2 ⟨rfl, hb2⟩
 have hcell : Whole w2 w.heap.size 131 #[.int .u8 0, .int .u8 0, .int .u8 0, .int .u8 0] := Whole.below HC.out hb2 HC.out.lt
 have hlt := Zqq tabN 0 bs
 have hG2 := Grows.trans HG.out hb2
 have HG2 := Lib.hid hG2
 have HC2 := Lib.hid hcell
 clear hcell hb2 hG2 HC HG
 generalize hs : onN tabN 0 bs = s at *
 have HO := Lib.hid hs
 clear hs
 have c0 := HC2.out.cell 0
 have c1 := HC2.out.cell 1
 have c2 := HC2.out.cell 2
 have c3 := HC2.out.cell 3
 have f0 := HC2.out.free 0
 have f1 := HC2.out.free 1
 have f2 := HC2.out.free 2
 have f3 := HC2.out.free 3
 simp only [Gt] at c0 c1 c2 c3
 go_wp2_with (fail)
 have hw := (((HC2.out.put 0 (.int .u8 ((s : Int) % 256))).put 1 (.int .u8 ((s : Int) / 256 % 256))).put 2 (.int .u8 ((s : Int) / 65536 % 256))).put 3 (.int .u8 ((s : Int) / 16777216))
 refine bodyPost_ret (results_cell_row rfl _ _ w.heap.size _ _ (0, 0) _ rfl hw Tryz.underlying131 rfl (by kernel_rfl)) rfl ?_
 refine ⟨?_, (((HG2.out.setCell (Nat.le_refl _) _).setCell (Nat.le_refl _) _).setCell (Nat.le_refl _) _).setCell (Nat.le_refl _) _⟩
 unfold tailB lowB arr4
 show Ending.returned (.agg #[.int .u8 ((s : Int) % 256), .int .u8 ((s : Int) / 256 % 256), .int .u8 ((s : Int) / 65536 % 256), .int .u8 ((s : Int) / 16777216)]) = _
 rw [HO.out, Yd (n := s) (by omega), Yd (n := s / 256) (by omega), Yd (n := s / 65536) (by omega), Yd (n := s / 16777216) (by omega)]
 rfl
theorem four {l : List UInt8} (h : l.length = 4) : ∃ b0 b1 b2 b3, l = [b0, b1, b2, b3] := by
 match l, h with
 | [b0, b1, b2, b3], _ => exact ⟨b0, b1, b2, b3, rfl⟩
theorem Zbn (b0 b1 b2 b3 : UInt8) : arr4 [b0, b1, b2, b3] = .agg #[.int .u8 (b0.toNat : Nat), .int .u8 (b1.toNat : Nat), .int .u8 (b2.toNat : Nat), .int .u8 (b3.toNat : Nat)] := rfl
theorem row4 {w : World} {g : Nat} {t : TypeId} {b0 b1 b2 b3 : UInt8} (h : Whole w g t #[.int .u8 (b0.toNat : Nat), .int .u8 (b1.toNat : Nat), .int .u8 (b2.toNat : Nat), .int .u8 (b3.toNat : Nat)]) :
 Row w w.heap.size (some ⟨g, 0, none⟩) 4 ([b0, b1, b2, b3].map byteV) :=
 ⟨rfl, fun k v hv => ⟨⟨g, 0, none⟩, rfl, h.lt, by
  rw [show (⟨g, 0, none⟩ : Addr).add k = ⟨g, k, none⟩ by unfold Addr.add; split <;> simp_all, h.cell k]
  simpa [byteV] using hv⟩⟩
theorem Zi {w : World} {ad : Addr} {n c : Nat} {b0 b1 b2 b3 : UInt8} {bs : List UInt8} (hs : Sl w (some ad) n c (b0 :: b1 :: b2 :: b3 :: bs)) :
 4 ≤ n ∧ w.cell? ad = some (.int .u8 (b0.toNat : Nat)) ∧ w.cell? { block := ad.block, off := ad.off + 1 } = some (.int .u8 (b1.toNat : Nat)) ∧ w.cell? { block := ad.block, off := ad.off + 2 } = some (.int .u8 (b2.toNat : Nat)) ∧ w.cell? { block := ad.block, off := ad.off + 3 } = some (.int .u8 (b3.toNat : Nat)) := by
 have h4 : 4 ≤ n := by have := hs.len; simp at this; omega
 obtain ⟨_, e0, hab, c0⟩ := hs.bytes.spot (k := 0) (by omega)
 injection e0 with e0; subst e0
 obtain ⟨_, e1, _, c1⟩ := hs.bytes.spot (k := 1) (by omega)
 injection e1 with e1; subst e1
 obtain ⟨_, e2, _, c2⟩ := hs.bytes.spot (k := 2) (by omega)
 injection e2 with e2; subst e2
 obtain ⟨_, e3, _, c3⟩ := hs.bytes.spot (k := 3) (by omega)
 injection e3 with e3; subst e3
 simp only [List.getD_cons_zero, List.getD_cons_succ, Addr.add_zero', Addr.add_succ', Nat.zero_add, Nat.reduceAdd] at c0 c1 c2 c3
 exact ⟨h4, c0, c1, c2, c3⟩
/-! What xor does to it. -/
theorem Zpq (a b : Nat) : (a ^^^ b) % 2 = (a % 2 + b % 2) % 2 := by
 have h := Nat.xor_mod_two_pow (a := a) (b := b) (n := 1)
 rw [Nat.pow_one] at h
 rw [h]
 have ha : a % 2 = 0 ∨ a % 2 = 1 := by omega
 have hb : b % 2 = 0 ∨ b % 2 = 1 := by omega
 rcases ha with ha | ha <;> rcases hb with hb | hb <;> rw [ha, hb] <;> rfl
theorem Zpr (a b : Nat) : (a ^^^ b) / 2 = a / 2 ^^^ b / 2 := by
 apply Nat.eq_of_testBit_eq
 intro i
 simp [Nat.testBit_div_two]
theorem xor4 (a b c d : Nat) : (a ^^^ b) ^^^ (c ^^^ d) = (a ^^^ c) ^^^ (b ^^^ d) := by
 apply Nat.eq_of_testBit_eq
 intro i
 simp only [Nat.testBit_xor]
 cases a.testBit i <;> cases b.testBit i <;> cases c.testBit i <;> cases d.testBit i <;> rfl
theorem Znf (a b : Nat) : stepN (a ^^^ b) = stepN a ^^^ stepN b := by
 have hm := Zpq a b
 have ha : a % 2 = 0 ∨ a % 2 = 1 := by omega
 have hb : b % 2 = 0 ∨ b % 2 = 1 := by omega
 unfold stepN
 rw [Zpr]
 rcases ha with ha | ha <;> rcases hb with hb | hb <;> rw [hm, ha, hb] <;> simp
 ·rw [Nat.xor_assoc]
 ·rw [Nat.xor_assoc, Nat.xor_assoc, Nat.xor_comm (b / 2)]
 ·rw [xor4, Nat.xor_self, Nat.xor_zero]
theorem Zng (k a b : Nat) : iterN k (a ^^^ b) = iterN k a ^^^ iterN k b := by
 induction k with
 | zero => rfl
 | succ k ih => simp only [iterN]; rw [ih, Znf]
theorem Zkx (a : Nat) : stepN (2 * a) = a := by
 unfold stepN
 rw [if_neg (by omega)]
 omega
theorem Znd (k a : Nat) : iterN k (2 ^ k * a) = a := by
 induction k generalizing a with
 | zero => simp [iterN]
 | succ k ih =>
   show stepN (iterN k (2 ^ (k + 1) * a)) = a
   rw [Nat.pow_succ, Nat.mul_assoc, ih, Zkx]
theorem Zpo (x : Nat) : x = (256 * (x / 256)) ^^^ (x % 256) := by
 apply Nat.eq_of_testBit_eq
 intro i
 rw [Nat.testBit_xor, show 256 = 2 ^ 8 by rfl, Nat.testBit_two_pow_mul, Nat.testBit_mod_two_pow]
 by_cases h : i < 8
 ·have h8 : ¬ 8 ≤ i := by omega
  simp [h, h8]
 ·rw [Nat.testBit_div_two_pow]
  simp [h, show 8 ≤ i by omega, show i - 8 + 8 = i by omega]
theorem Zpp (m : Nat) (c : UInt8) : (m ^^^ c.toNat) / 256 = m / 256 := by
 apply Nat.eq_of_testBit_eq
 intro i
 rw [show 256 = 2 ^ 8 by rfl, Nat.testBit_div_two_pow, Nat.testBit_div_two_pow, Nat.testBit_xor]
 have hc : c.toNat < 2 ^ (i + 8) := Nat.lt_of_lt_of_le c.toNat_lt (Nat.pow_le_pow_right (by omega) (by omega))
 rw [Nat.testBit_lt_two_pow hc]
 simp
theorem Zne (m : Nat) (c : UInt8) : nextN tabN m c = iterN 8 (m ^^^ c.toNat) := by
 conv => rhs; rw [Zpo (m ^^^ c.toNat), Zng, show 256 = 2 ^ 8 by rfl, Znd 8, show 2 ^ 8 = 256 by rfl, Zpp]
 rfl
open Go.Lib (hid)
theorem Zpn (m : Nat) (h : m % 2 = 1) : ((m : Int) % 2 == 1) = true := by
 rw [show ((m : Int) % 2) = ((m % 2 : Nat) : Int) by omega, h]; rfl
theorem Znb (m : Nat) (h : ¬ m % 2 = 1) : ((m : Int) % 2 == 1) = false := by
 rw [show ((m : Int) % 2) = ((m % 2 : Nat) : Int) by omega, show m % 2 = 0 by omega]; rfl
theorem Znc (s : Nat) (h : s < 4294967296) : bits BinOp.xor IntKind.u32 ↑s 4294967295 = ((4294967295 - s : Nat) : Int) := by
 rw [← Zjr s h, Nat.xor_comm]
 exact u32_xor_nat s 4294967295 h (by omega)
set_option maxRecDepth 100000 in
set_option maxHeartbeats 1000000 in
theorem Zkw (A : Option Addr) (n c : Nat) (bs : List UInt8) (w : World) (hr : Bytes w w.heap.size A n bs) (hn : n ≤ maxLen) :
 Calls Tryz.prog 103 #[.slice A n c] w fun e w' => e = .returned (.int .u32 (onN tabN 0 bs : Nat)) ∧ w = w' := by
 unfold maxLen at hn
 have HL := hid hr.len
 go_enter Tryz.func103, Tryz.ntmps103
 go_wp2_with (fail)
 go_loop [3, 4] (fun s' i => ∃ k : Nat, k ≤ n ∧ i = .int .i64 k ∧ s' = .int .u32 (runN tabN 4294967295 (bs.take k) : Nat)) (fun _ i => n - (intOf i).toNat)
 case atStart => exact ⟨0, by omega, rfl, rfl⟩
 case round =>
  obtain ⟨k, hk, rfl, rfl⟩ := hrel
  have hb := Zna tabN Zm9 (bs.take k) 4294967295 (by omega)
  have hst := fun h => Zhi tabN 4294967295 bs k h
  generalize hm : runN tabN 4294967295 (bs.take k) = m at *
  have Hm := hid hm
  have Hst := hid hst
  clear hm hst
  by_cases hlt : k < n
  ·obtain ⟨ad, rfl, hab, hc⟩ := hr.spot hlt
   generalize bs.getD k 0 = b at *
   have hbl := b.toNat_lt
   have hx := u32_xor_nat m b.toNat hb (by omega)
   have hni := Zne m b
   have hxl : m ^^^ b.toNat < 4294967296 := Nat.xor_lt_two_pow (n := 32) hb (by omega)
   generalize m ^^^ b.toNat = x at *
   have HNI := hid hni
   clear hni
   go_wp2_with (fail)
   go_loop [3, 5] (fun s' i => ∃ q : Nat, q ≤ 8 ∧ i = .int .i64 q ∧ s' = .int .u32 (iterN q x : Nat)) (fun _ i => 8 - (intOf i).toNat)
   case atStart => exact ⟨0, by omega, rfl, rfl⟩
   case round =>
    obtain ⟨q, hq, rfl, rfl⟩ := hrel
    have hbm := Zf3 q x hxl
    generalize hz : iterN q x = z at *
    have Hz := hid hz
    clear hz
    by_cases hlt2 : q < 8
    ·by_cases ho : z % 2 = 1
     ·have h1 := Zpn z ho
      have Ho := hid ho
      clear ho
      go_wp2_with (fail)
      go_round
      case rel => exact ⟨q + 1, by omega, by go_num, by rw [Zjq z hbm, iterN, Hz.out, stepN, if_pos Ho.out]⟩
      case measure => simp [intOf]; omega
     ·have h1 := Znb z ho
      have Ho := hid ho
      clear ho
      go_wp2_with (fail)
      go_round
      case rel => exact ⟨q + 1, by omega, by go_num, by rw [iterN, Hz.out, stepN, if_neg Ho.out]; rfl⟩
      case measure => simp [intOf]; omega
    ·have hq8 : q = 8 := by omega
     subst hq8
     go_wp2_with (fail)
     go_round
     case rel => exact ⟨k + 1, by omega, by go_num, by rw [Hst.out (by have := HL.out; omega), HNI.out, Hz.out]⟩
     case measure => simp [intOf]; omega
  ·have hkn : k = n := by omega
   subst hkn
   go_wp2_with (fail)
   go_ret
   exact ⟨Za1 (by rw [Znc m hb]; unfold onN; rw [← Hm.out, List.take_of_length_le (by have := HL.out; omega)]), rfl⟩
set_option maxHeartbeats 400000 in
theorem Yf (n : Int) (w : World) (h1 : -9223372036854775808 ≤ n) (h2 : n ≤ 9223372036854775807) :
 Calls Tryz.prog 65 #[.int .i64 n] w fun e w' => e = .returned (.int .i64 (sizeN n)) ∧ w = w' := by
 by_cases ha : n < 1
 ·have hd : decide (n < 1) = true := by simp; omega
  go_enter Tryz.func65, Tryz.ntmps65
  go_wp2
  go_ret
  exact ⟨Za1 (by unfold sizeN; rw [if_neg (by omega)]), rfl⟩
 ·have hd : decide (n < 1) = false := by simp; omega
  by_cases hb : 8192 < n
  ·have hd2 : decide (8192 < n) = true := by simp; omega
   go_enter Tryz.func65, Tryz.ntmps65
   go_wp2
   go_ret
   exact ⟨Za1 (by unfold sizeN; rw [if_neg (by omega)]), rfl⟩
  ·have hd2 : decide (8192 < n) = false := by simp; omega
   go_enter Tryz.func65, Tryz.ntmps65
   go_wp2
   go_ret
   exact ⟨Za1 (by unfold sizeN; rw [if_pos (by omega)]), rfl⟩
theorem Zph (n x y : Nat) (hx : n / 256 = x) (hy : n % 256 = y) (h : x < 256) : (headB n).map byteV = [.int .u8 (x : Int), .int .u8 (y : Int), .int .u8 (255 - (x : Int)), .int .u8 (255 - (y : Int))] := by
 unfold headB
 rw [hx, hy, Nat.mod_eq_of_lt h, Yd (x := (x : Int)) (n := x) (by omega), Yd (x := (y : Int)) (n := n) (by omega), Yd (x := 255 - (x : Int)) (n := 255 - x) (by omega), Yd (x := 255 - (y : Int)) (n := 255 - y) (by omega)]
 rfl
theorem Zrm (s : Nat) (h : s < 4294967296) : #[Value.int .u8 ((s : Int) % 256), .int .u8 ((s : Int) / 256 % 256), .int .u8 ((s : Int) / 65536 % 256), .int .u8 ((s : Int) / 16777216)] = ((lowB s).map byteV).toArray := by
 rw [Yd (n := s) (by omega), Yd (n := s / 256) (by omega), Yd (n := s / 65536) (by omega), Yd (n := s / 16777216) (by omega)]
 rfl
theorem Zir (A : Option Addr) (n c : Nat) (w : World) (hn : n ≤ maxLen) (h : ¬ (1 ≤ n ∧ n ≤ 8192)) :
 Calls Tryz.prog 58 #[.slice A n c] w fun e w' => e = .returned (.slice none 0 0) ∧ Below w.heap.size w w' := by
 unfold maxLen at hn
 have hz : sizeN n = 0 := by unfold sizeN; rw [if_neg (by omega)]
 go_enter Tryz.func58, Tryz.ntmps58
 go_wp2_with (fail)
 refine (Yf _ _ (by omega) (by omega)).mono ?_
 rintro e w1 ⟨rfl, rfl⟩
 go_wp2_with (fail)
 go_ret
 exact ⟨rfl, Below.refl _ _⟩
set_option maxRecDepth 100000 in
set_option maxHeartbeats 1000000 in
theorem Zis (A : Option Addr) (n c : Nat) (bs : List UInt8) (w : World) (hs : Sl w A n c bs) (h1 : 1 ≤ n) (h2 : n ≤ 8192) :
 Calls Tryz.prog 58 #[.slice A n c] w fun e w' => ∃ A' c', e = .returned (.slice A' (n + 8) c') ∧ w'.ownsRow w.heap.size 5 1 (.slice A' (n + 8) c') (n + 8) ((Zbo bs).map byteV) ∧ Below w.heap.size w w' := by
 have hz : sizeN n = ((n + 8 : Nat) : Int) := by unfold sizeN; rw [if_pos (by omega)]; rfl
 have hne : ((((n + 8 : Nat) : Int)) == 0) = false := by simp; omega
 obtain ⟨i0, hi, hz0, hz1, hz2⟩ := info_parts infoU8
 have HI := hid hi
 have HZ := hid (And.intro hz0 (And.intro hz1 hz2))
 have HS := hid hs
 clear hs hi hz0 hz1 hz2
 generalize hm : ((n + 8 : Nat) : Int) = m at *
 have q1 : (n : Int).tdiv 256 = ((n / 256 : Nat) : Int) := by rw [Int.tdiv_eq_ediv_of_nonneg (by omega)]; omega
 have q2 : (n : Int).tmod 256 = ((n % 256 : Nat) : Int) := by rw [Int.tmod_eq_emod_of_nonneg (by omega)]; omega
 have q3 : n / 256 < 33 := by omega
 have q4 : n % 256 < 256 := by omega
 generalize hx : n / 256 = x at *
 generalize hy : n % 256 = y at *
 have HX := hid hx
 have HY := hid hy
 clear hx hy
 go_enter Tryz.func58, Tryz.ntmps58
 go_wp2_with (fail)
 refine (Yf _ _ (by omega) (by omega)).mono ?_
 rintro e w1 ⟨rfl, rfl⟩
 have hl0 := World.ownsRow_lit (size := 1) (base := w.heap.size) (e := 5) w #[.int .u8 (x : Int), .int .u8 (y : Int), .int .u8 (255 - (x : Int)), .int .u8 (255 - (y : Int))] 4 (Nat.le_refl _) (by unfold maxLen; omega) rfl
 have HL0 := hid hl0
 clear hl0
 go_wp2_with (first
  | (at_builtin
     refine Z6 rfl (.tmp 25) (.tmp 26) _ rfl Tryz.underlying31 HI.out HZ.out.1 HZ.out.2.1 HZ.out.2.2 rfl (v := .slice (some ⟨w.heap.size, 0, none⟩) 4 4) rfl HL0.out (A := A) (m := n) (c := c) rfl (HS.out.alloc _).bytes HS.out.bare (Yg _) (n + 4) (by omega) ((headB n ++ bs).map byteV) (by rw [List.map_append, Zph n x y HX.out HY.out (by omega)]) (by unfold maxLen; omega) (by omega) (by simp) ?_
     intro A1 c1 w1 hown1 hbare1 hg1 hat1
     have hb1 : Below w.heap.size w w1 := (((Below.refl _ _).alloc (Nat.le_refl _) _).grown hg1 (by simp) (fun k hk => by injection hk with hk; exact Nat.le_of_eq hk))
     have HOWN1 := hid hown1
     have HB1 := hid hb1
     clear hown1 hbare1 hg1 hat1 hb1))
 refine (Zkw A1 (n + 4) c1 _ w1 (Row.owned HOWN1.out) (by unfold maxLen; omega)).mono ?_
 rintro e w2 ⟨rfl, rfl⟩
 have hlt := Zqq tabN 0 (headB n ++ bs)
 generalize hsu : onN tabN 0 (headB n ++ bs) = s at *
 have HSU := hid hsu
 clear hsu
 have hm2 := Whole.made w1 5 #[.int .u8 ((s : Int) % 256), .int .u8 ((s : Int) / 256 % 256), .int .u8 ((s : Int) / 65536 % 256), .int .u8 ((s : Int) / 16777216)]
 have hb2 : Grows w1 (w1.alloc (.cells #[.int .u8 ((s : Int) % 256), .int .u8 ((s : Int) / 256 % 256), .int .u8 ((s : Int) / 65536 % 256), .int .u8 ((s : Int) / 16777216)] 5)) := (Below.refl _ _).alloc (Nat.le_refl _) _
 have HM2 := hid hm2
 have HG2 := hid hb2
 have HOWN2 := hid (Zd HOWN1.out hb2)
 have HB2 := hid (HB1.out.trans (hb2.mono HB1.out.size))
 clear hm2 hb2 HL0
 go_wp2_with (first
  | (at_builtin
     refine Z6 rfl (.tmp 30) (.tmp 42) _ rfl Tryz.underlying31 HI.out HZ.out.1 HZ.out.2.1 HZ.out.2.2 rfl (v := .slice A1 (n + 4) c1) rfl HOWN2.out (A := some ⟨w1.heap.size, 0, none⟩) (m := 4) (c := 4) rfl (HM2.out.sl (lowB s) (by rw [Zrm s hlt]) rfl).bytes (fun h => by cases h) (Yg _) (n + 8) (by omega) (((headB n ++ bs) ++ lowB s).map byteV) (List.map_append).symm (by unfold maxLen; omega) (by omega) HB2.out.size ?_
     intro A7 c7 w7 hown7 hbare7 hg7 hat7
     have hb7 : Below w.heap.size w w7 := HB2.out.grown hg7 HB2.out.size (fun k hk => (HOWN2.out.lt k hk).1)
     have HOWN7 := hid hown7
     have HB7 := hid hb7
     clear hown7 hbare7 hg7 hat7 hb7))
 go_ret
 refine ⟨A7, c7, rfl, ?_, HB7.out⟩
 have hf : Zbo bs = (headB n ++ bs) ++ lowB s := by
  unfold Zbo tailB
  rw [HS.out.len, HSU.out]
 rw [hf]
 exact HOWN7.out
theorem Zcw (A : Option Addr) (n c : Nat) (bs : List UInt8) (w : World) (hs : Sl w A n c bs) (hn : n ≤ maxLen) :
 Calls Tryz.prog 58 #[.slice A n c] w fun e w' => ∃ A' m c', e = .returned (.slice A' m c') ∧ w'.ownsRow w.heap.size 5 1 (.slice A' m c') m ((putB bs).map byteV) ∧ Below w.heap.size w w' := by
 have hl := hs.len
 by_cases h : 1 ≤ n ∧ n ≤ 8192
 ·refine (Zis A n c bs w hs h.1 h.2).mono ?_
  rintro e w' ⟨A', c', rfl, hs', hb⟩
  refine ⟨A', n + 8, c', rfl, ?_, hb⟩
  unfold putB
  rw [hl, if_pos h]
  exact hs'
 ·refine (Zir A n c w hn h).mono ?_
  rintro e w' ⟨rfl, hb⟩
  refine ⟨none, 0, 0, rfl, ?_, hb⟩
  unfold putB
  rw [hl, if_neg h]
  exact World.ownsRow_nil _ _ _ _
theorem Zfd (A : Option Addr) (n c : Nat) (bs : List UInt8) (w : World) (hs : Sl w A n c bs) (hn : n ≤ maxLen) :
 Calls Tryz.prog 58 #[.slice A n c] w fun e w' => ∃ A' m c', e = .returned (.slice A' m c') ∧ Sl w' A' m c' (putB bs) ∧ Below w.heap.size w w' :=
 (Zcw A n c bs w hs hn).mono fun _ _ ⟨A', m, c', he, ho, hb⟩ => ⟨A', m, c', he, Sl.owned ho, hb⟩
end Go.Proofs.YtlldcogkcjnejaaGreat
