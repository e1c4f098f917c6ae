/-
  The walks of frame.Size, head, tail, Put.
-/
import Derived.Test.YtfefghnincjlgaaOn
import Derived.Test.YtfefghnincjlgaaFramePlain
import Derived.Test.YtfefghnincjlgaaSlices
import Derived.IntWalk
namespace Go.Proofs.Ytfefghnincjlgaa
open Go.RowKit

set_option maxHeartbeats 400000 in
theorem size_any (n : Int) (w : World) (h1 : -9223372036854775808 ≤ n) (h2 : n ≤ 9223372036854775807) :
    Calls Try.prog 14 #[.int .i64 n] w fun e w' => e = .returned (.int .i64 (sizeN n)) ∧ w = w' := by
  by_cases ha : n < 1
  · have hd : decide (n < 1) = true := by simp; omega
    go_enter Try.func14, Try.ntmps14
    go_wp2
    go_ret
    exact ⟨ret_int (by unfold sizeN; rw [if_neg (by omega)]), rfl⟩
  · have hd : decide (n < 1) = false := by simp; omega
    by_cases hb : 8192 < n
    · have hd2 : decide (8192 < n) = true := by simp; omega
      go_enter Try.func14, Try.ntmps14
      go_wp2
      go_ret
      exact ⟨ret_int (by unfold sizeN; rw [if_neg (by omega)]), rfl⟩
    · have hd2 : decide (8192 < n) = false := by simp; omega
      go_enter Try.func14, Try.ntmps14
      go_wp2
      go_ret
      exact ⟨ret_int (by unfold sizeN; rw [if_pos (by omega)]; omega), rfl⟩

/-- An array of four bytes. -/
def arr4 (l : List UInt8) : Value := .agg (l.map byteV).toArray

theorem not_u8 (x : Nat) (h : x < 256) : bits BinOp.xor IntKind.u8 IntKind.u8.max (x : Int) = ((255 - x : Nat) : Int) := by
  have h1 : (BitVec.allOnes 8 ^^^ BitVec.ofNat 8 x).toNat = 255 - x := by
    rw [BitVec.allOnes_xor, BitVec.toNat_not, BitVec.toNat_ofNat, Nat.mod_eq_of_lt h]
  rw [BitVec.toNat_xor, BitVec.toNat_ofNat, Nat.mod_eq_of_lt h] at h1
  rw [← h1]
  exact u8_xor 255 x (by omega) h
theorem byteV_of {x : Int} {n : Nat} (h : x = ((n % 256 : Nat) : Int)) : Value.int .u8 x = byteV (UInt8.ofNat n) := by
  rw [h, byteV, UInt8.toNat_ofNat']

set_option maxRecDepth 100000 in
set_option maxHeartbeats 400000 in
theorem fhead_any (n : Nat) (w : World) (hn : n < 65536) :
    Calls Try.prog 16 #[.int .i64 (n : Int)] w fun e w' => e = .returned (arr4 (headB n)) ∧ Below w.heap.size w w' := by
  go_enter Try.func16, Try.ntmps16
  go_wp2_with (fail)
  refine bodyPost_ret (results_cell_row rfl _ _ w.heap.size _ _ (0, 0) _ rfl (heap_alloc_new w _) Try.underlying37 rfl (by kernel_rfl)) rfl ?_
  refine ⟨?_, (Below.refl _ _).alloc (Nat.le_refl _) _⟩
  have e1 : ((n : Int) / 256) = ((n / 256 : Nat) : Int) := by omega
  have e2 : ((n : Int) % 256) = ((n % 256 : Nat) : Int) := by omega
  rw [e1, e2, not_u8 _ (by omega), not_u8 _ (by omega), byteV_of (n := n / 256) (by omega), byteV_of (n := n) (by omega), byteV_of (n := 255 - n / 256) (by omega), byteV_of (n := 255 - n % 256) (by omega)]
  unfold arr4 headB
  rw [Nat.mod_eq_of_lt (show n / 256 < 256 by omega)]
  rfl

set_option maxRecDepth 100000 in
set_option maxHeartbeats 400000 in
theorem ftail_any (A : Option Addr) (n c : Nat) (bs : List UInt8) (w : World) (hs : Sl w A n c bs) (hn : n ≤ maxLen) :
    Calls Try.prog 17 #[.slice A n c] w fun e w' => e = .returned (arr4 (tailB bs)) ∧ Below w.heap.size w w' := by
  have HS := Lib.hid hs
  clear hs
  go_enter Try.func17, Try.ntmps17
  go_wp2_with (fail)
  refine (table_any _).mono ?_
  rintro e w1 ⟨rfl, hb1⟩
  have hG := ((Below.refl _ w).alloc (Nat.le_refl _) _).trans (hb1.mono (by simp))
  have hcell : Whole w1 w.heap.size 37 #[.int .u8 0, .int .u8 0, .int .u8 0, .int .u8 0] := Whole.below (Whole.made w _ _) hb1 (by simp)
  have HG := Lib.hid hG
  have HC := Lib.hid hcell
  clear hb1 hG hcell
  go_wp2_with (fail)
  refine (of_any tabN tabN_all A n c bs w1 (Grows.bytes HG.out HS.out.bytes) hn).mono ?_
  rintro e w2 ⟨rfl, hb2⟩
  have hcell : Whole w2 w.heap.size 37 #[.int .u8 0, .int .u8 0, .int .u8 0, .int .u8 0] := Whole.below HC.out hb2 HC.out.lt
  have hlt := onN_lt tabN 0 bs
  have hG2 := Grows.trans HG.out hb2
  have HG2 := Lib.hid hG2
  have HC2 := Lib.hid hcell
  clear hcell hb2 hG2 HC HG
  generalize hs : onN tabN 0 bs = s at *
  have HO := Lib.hid hs
  clear hs
  have c0 := HC2.out.cell 0
  have c1 := HC2.out.cell 1
  have c2 := HC2.out.cell 2
  have c3 := HC2.out.cell 3
  have f0 := HC2.out.free 0
  have f1 := HC2.out.free 1
  have f2 := HC2.out.free 2
  have f3 := HC2.out.free 3
  simp only [List.getElem?_toArray, List.getElem?_cons_zero, List.getElem?_cons_succ] at c0 c1 c2 c3
  go_wp2_with (fail)
  have hw := (((HC2.out.put 0 (.int .u8 ((s : Int) % 256))).put 1 (.int .u8 ((s : Int) / 256 % 256))).put 2 (.int .u8 ((s : Int) / 65536 % 256))).put 3 (.int .u8 ((s : Int) / 16777216))
  refine bodyPost_ret (results_cell_row rfl _ _ w.heap.size _ _ (0, 0) _ rfl hw Try.underlying37 rfl (by kernel_rfl)) rfl ?_
  refine ⟨?_, (((HG2.out.setCell (Nat.le_refl _) _).setCell (Nat.le_refl _) _).setCell (Nat.le_refl _) _).setCell (Nat.le_refl _) _⟩
  unfold tailB lowB arr4
  show Ending.returned (.agg #[.int .u8 ((s : Int) % 256), .int .u8 ((s : Int) / 256 % 256), .int .u8 ((s : Int) / 65536 % 256), .int .u8 ((s : Int) / 16777216)]) = _
  rw [HO.out, byteV_of (n := s) (by omega), byteV_of (n := s / 256) (by omega), byteV_of (n := s / 65536) (by omega), byteV_of (n := s / 16777216) (by omega)]
  rfl

/-- Put of what is no body. -/
theorem put_none (A : Option Addr) (n c : Nat) (w : World) (hn : n ≤ maxLen) (h : ¬ (1 ≤ n ∧ n ≤ 8192)) :
    Calls Try.prog 12 #[.slice A n c] w fun e w' => e = .returned (.slice none 0 0) ∧ Below w.heap.size w w' := by
  unfold maxLen at hn
  have hz : sizeN n = 0 := by unfold sizeN; rw [if_neg (by omega)]
  go_enter Try.func12, Try.ntmps12
  go_wp2_with (fail)
  refine (size_any _ _ (by omega) (by omega)).mono ?_
  rintro e w1 ⟨rfl, rfl⟩
  go_wp2_with (fail)
  go_ret
  exact ⟨rfl, Below.refl _ _⟩

/-- Four bytes, told apart. -/
theorem four {l : List UInt8} (h : l.length = 4) : ∃ b0 b1 b2 b3, l = [b0, b1, b2, b3] := by
  match l, h with
  | [b0, b1, b2, b3], _ => exact ⟨b0, b1, b2, b3, rfl⟩
/-- An array of four bytes, written out. -/
theorem arr4_is (b0 b1 b2 b3 : UInt8) : arr4 [b0, b1, b2, b3] = .agg #[.int .u8 (b0.toNat : Nat), .int .u8 (b1.toNat : Nat), .int .u8 (b2.toNat : Nat), .int .u8 (b3.toNat : Nat)] := rfl
theorem row4 {w : World} {g : Nat} {t : TypeId} {b0 b1 b2 b3 : UInt8} (h : Whole w g t #[.int .u8 (b0.toNat : Nat), .int .u8 (b1.toNat : Nat), .int .u8 (b2.toNat : Nat), .int .u8 (b3.toNat : Nat)]) :
    Row w w.heap.size (some ⟨g, 0, none⟩) 4 ([b0, b1, b2, b3].map byteV) :=
  ⟨rfl, fun k v hv => ⟨⟨g, 0, none⟩, rfl, h.lt, by
    rw [show (⟨g, 0, none⟩ : Addr).add k = ⟨g, k, none⟩ by unfold Addr.add; split <;> simp_all, h.cell k]
    simpa [byteV] using hv⟩⟩

set_option maxRecDepth 100000 in
set_option maxHeartbeats 2000000 in
theorem put_some (A : Option Addr) (n c : Nat) (bs : List UInt8) (w : World) (hs : Sl w A n c bs) (h1 : 1 ≤ n) (h2 : n ≤ 8192) :
    Calls Try.prog 12 #[.slice A n c] w fun e w' => ∃ A' c', e = .returned (.slice A' (n + 8) c') ∧ w'.ownsRow w.heap.size 5 1 (.slice A' (n + 8) c') (n + 8) ((frameB bs).map byteV) ∧ Below w.heap.size w w' := by
  have hz : sizeN n = ((n + 8 : Nat) : Int) := by unfold sizeN; rw [if_pos (by omega)]; rfl
  have hne : ((((n + 8 : Nat) : Int)) == 0) = false := by simp; omega
  obtain ⟨i0, hi, hz0, hz1, hz2⟩ := info_parts infoU8
  have HI := Lib.hid hi
  have HZ := Lib.hid (And.intro hz0 (And.intro hz1 hz2))
  have HS := Lib.hid hs
  clear hs hi hz0 hz1 hz2
  generalize hm : ((n + 8 : Nat) : Int) = m at *
  go_enter Try.func12, Try.ntmps12
  go_wp2_with (fail)
  refine (size_any _ _ (by omega) (by omega)).mono ?_
  rintro e w1 ⟨rfl, rfl⟩
  go_wp2_with (fail)
  obtain ⟨b0, b1, b2, b3, hh⟩ := four (headB_length n)
  have hc := fhead_any n w (by omega)
  rw [hh, arr4_is] at hc
  refine hc.mono ?_
  rintro e w1 ⟨rfl, hb1⟩
  have HH := Lib.hid hh
  have HB1 := Lib.hid hb1
  have hlt : ∀ b : UInt8, b.toNat < 256 := fun b => b.toNat_lt
  clear hb1 hc hh
  go_wp2_with (fail)
  have hW1 := Whole.made w1 37 #[Value.int IntKind.u8 ↑b0.toNat, Value.int IntKind.u8 ↑b1.toNat, Value.int IntKind.u8 ↑b2.toNat, Value.int IntKind.u8 ↑b3.toNat]
  have hBW := HB1.out.alloc HB1.out.size (Obj.cells #[Value.int IntKind.u8 ↑b0.toNat, Value.int IntKind.u8 ↑b1.toNat, Value.int IntKind.u8 ↑b2.toNat, Value.int IntKind.u8 ↑b3.toNat] 37)
  generalize w1.alloc (Obj.cells #[Value.int IntKind.u8 ↑b0.toNat, Value.int IntKind.u8 ↑b1.toNat, Value.int IntKind.u8 ↑b2.toNat, Value.int IntKind.u8 ↑b3.toNat] 37) = W at *
  have hg1 : w.heap.size ≤ w1.heap.size := HB1.out.size
  generalize w1.heap.size = g1 at *
  obtain ⟨w2, hrun, hown, hgr⟩ := run_make_own (P := Try.prog) W W.heap.size 22 5 i0 _ 1 Try.underlying22 HI.out HZ.out.1 HZ.out.2.1 .i64 .i64 (n + 8) (by rw [HZ.out.2.2]; omega) (by unfold maxLen; omega) (Nat.le_refl _)
  rw [hm] at hrun
  rw [hrun]
  have hb2 : Below W.heap.size W w2 := (Below.refl _ W).grown hgr (Nat.le_refl _) (fun k hk => by cases hk)
  have HOWN := Lib.hid hown
  have HB2 := Lib.hid hb2
  have hW2 := Whole.below hW1 hb2 hW1.lt
  have HW2 := Lib.hid hW2
  have HBW := Lib.hid hBW
  clear hrun hown hgr hb2 hW2 hBW hW1 HB1 w1
  go_wp2_with (first
    | (at_builtin
       refine list_append_row rfl (.tmp 17) (.tmp 18) _ rfl Try.underlying22 HI.out HZ.out.1 HZ.out.2.1 HZ.out.2.2 rfl (v := .slice (some ⟨W.heap.size, 0, none⟩) 0 (n + 8)) rfl HOWN.out (A := some ⟨g1, 0, none⟩) (m := 4) (c := 4) rfl (row4 HW2.out) (fun h => by cases h) (byteV_one _) 4 rfl ([b0, b1, b2, b3].map byteV) rfl (by unfold maxLen; omega) (by omega) HB2.out.size ?_
       intro A3 c3 w3 hown3 hbare3 hg3 hat3
       have hb3 : Below W.heap.size W w3 := HB2.out.grown hg3 HB2.out.size (fun k hk => by injection hk with hk; exact Nat.le_of_eq hk)
       have HOWN3 := Lib.hid hown3
       have HB3 := Lib.hid hb3
       have HX3 := Lib.hid (Sl.grow ((HBW.out.trans (hb3.mono HBW.out.size))) HS.out)
       clear hown3 hbare3 hg3 hat3 hb3)
    | (at_builtin
       refine list_append_row rfl (.tmp 20) (.tmp 21) _ rfl Try.underlying22 HI.out HZ.out.1 HZ.out.2.1 HZ.out.2.2 rfl (v := .slice A3 4 c3) rfl HOWN3.out (A := A) (m := n) (c := c) rfl HX3.out.bytes HX3.out.bare (byteV_one _) (n + 4) (by omega) (([b0, b1, b2, b3] ++ bs).map byteV) (List.map_append).symm (by unfold maxLen; omega) (by omega) HB3.out.size ?_
       intro A4 c4 w4 hown4 hbare4 hg4 hat4
       have hb4 : Below W.heap.size W w4 := HB3.out.grown hg4 HB3.out.size (fun k hk => (HOWN3.out.lt k hk).1)
       have HOWN4 := Lib.hid hown4
       have HB4 := Lib.hid hb4
       clear hown4 hbare4 hg4 hat4 hb4))
  obtain ⟨d0, d1, d2, d3, hd⟩ := four (tailB_length ([b0, b1, b2, b3] ++ bs))
  have hc := ftail_any A4 (n + 4) c4 ([b0, b1, b2, b3] ++ bs) w4 (Sl.owned HOWN4.out) (by unfold maxLen; omega)
  rw [hd, arr4_is] at hc
  refine hc.mono ?_
  rintro e w5 ⟨rfl, hb5⟩
  have HD := Lib.hid hd
  have HB5 := Lib.hid hb5
  have hW6 := Whole.made w5 37 #[Value.int IntKind.u8 ↑d0.toNat, Value.int IntKind.u8 ↑d1.toNat, Value.int IntKind.u8 ↑d2.toNat, Value.int IntKind.u8 ↑d3.toNat]
  have HW6 := Lib.hid hW6
  have hb6 := hb5.alloc hb5.size (Obj.cells #[Value.int IntKind.u8 ↑d0.toNat, Value.int IntKind.u8 ↑d1.toNat, Value.int IntKind.u8 ↑d2.toNat, Value.int IntKind.u8 ↑d3.toNat] 37)
  have HOWN6 := Lib.hid (owned_grow HOWN4.out hb6)
  have HB6 := Lib.hid (HB4.out.trans (hb6.mono HB4.out.size))
  clear hb5 hc hd hW6 hb6 HB4 HB3 HB2 HOWN4 HOWN3 HOWN HX3 HW2 HB5
  go_wp2_with (first
    | (at_builtin
       refine list_append_row rfl (.tmp 25) (.tmp 26) _ rfl Try.underlying22 HI.out HZ.out.1 HZ.out.2.1 HZ.out.2.2 rfl (v := .slice A4 (n + 4) c4) rfl HOWN6.out (A := some ⟨w5.heap.size, 0, none⟩) (m := 4) (c := 4) rfl (row4 HW6.out) (fun h => by cases h) (byteV_one _) (n + 8) (by omega) ((([b0, b1, b2, b3] ++ bs) ++ [d0, d1, d2, d3]).map byteV) (List.map_append).symm (by unfold maxLen; omega) (by omega) HB6.out.size ?_
       intro A7 c7 w7 hown7 hbare7 hg7 hat7
       have hb7 : Below W.heap.size W w7 := HB6.out.grown hg7 HB6.out.size (fun k hk => (HOWN6.out.lt k hk).1)
       have HOWN7 := Lib.hid hown7
       have HB7 := Lib.hid hb7
       clear hown7 hbare7 hg7 hat7 hb7))
  go_ret
  refine ⟨A7, c7, rfl, ?_, HBW.out.trans (HB7.out.mono HBW.out.size)⟩
  have hf : frameB bs = ([b0, b1, b2, b3] ++ bs) ++ [d0, d1, d2, d3] := by
    unfold frameB
    rw [HS.out.len, HH.out, HD.out]
  rw [hf]
  exact owned_from HOWN7.out HBW.out.size
end Go.Proofs.Ytfefghnincjlgaa
