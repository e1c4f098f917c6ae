/-
  SumXor holds of any two runs of bytes: of bytes that are alike in length the sums of both, of their xor, and of as many zeros, come to 0 together, by the table; no condition.
-/
import Derived.Test.YtefempiefkcccaaHead
import Derived.Test.YtefempiefkcccaaQuiet
import Derived.Test.YtefempiefkcccaaLists
import Derived.Test.YtefempiefkcccaaFrame
import Derived.Test.YtefempiefkcccaaSeat
import Derived.Test.YtefempiefkcccaaBurst
import Derived.Deep.RegionHeld3
import Derived.IntWalk
import Derived.RegionTactic
import Derived.BigRegion
import Derived.Laws.MakeOwn
import Derived.WalkLawsBesides
namespace Go.Proofs.Ytefempiefkcccaa
open Go.ChangeShapes Go.WideShapes Go.ChangeAt Go.RowKit

/-- Byte by byte, of the first i. -/
def xorB (xs ys : List UInt8) (i : Nat) : List UInt8 := (List.range i).map fun k => UInt8.ofNat ((xs.getD k 0).toNat ^^^ (ys.getD k 0).toNat)
theorem xor_byte (a b : UInt8) : (UInt8.ofNat (a.toNat ^^^ b.toNat)).toNat = a.toNat ^^^ b.toNat := by
  have h1 : a.toNat ^^^ b.toNat < 2 ^ 8 := Nat.xor_lt_two_pow a.toNat_lt b.toNat_lt
  rw [UInt8.toNat_ofNat']
  exact Nat.mod_eq_of_lt (by omega)
theorem run_four (n : Nat) (xs ys : List UInt8) (hx : xs.length = n) (hy : ys.length = n) (s t u v : Nat) (h : s ^^^ t ^^^ u ^^^ v = 0) :
    runN tabN s (xorB xs ys n) ^^^ runN tabN t xs ^^^ runN tabN u ys ^^^ runN tabN v (List.replicate n 0) = 0 := by
  induction n generalizing xs ys s t u v with
  | zero =>
    have e1 : xs = [] := List.eq_nil_of_length_eq_zero hx
    have e2 : ys = [] := List.eq_nil_of_length_eq_zero hy
    subst e1 e2
    exact h
  | succ n ih =>
    rcases xs with _ | ⟨a, xs⟩
    · cases hx
    rcases ys with _ | ⟨b, ys⟩
    · cases hy
    have e : xorB (a :: xs) (b :: ys) (n + 1) = UInt8.ofNat (a.toNat ^^^ b.toNat) :: xorB xs ys n := by
      unfold xorB
      rw [List.range_succ_eq_map, List.map_cons, List.map_map]
      rfl
    rw [e, List.replicate_succ]
    show runN tabN (nextN tabN s _) (xorB xs ys n) ^^^ runN tabN (nextN tabN t a) xs ^^^ runN tabN (nextN tabN u b) ys ^^^ runN tabN (nextN tabN v 0) (List.replicate n 0) = 0
    refine ih xs ys (by simpa using hx) (by simpa using hy) _ _ _ _ ?_
    rw [next_iter, next_iter, next_iter, next_iter, ← iterN_xor, ← iterN_xor, ← iterN_xor, xor_byte]
    have e2 : s ^^^ (a.toNat ^^^ b.toNat) ^^^ (t ^^^ a.toNat) ^^^ (u ^^^ b.toNat) ^^^ (v ^^^ (0 : UInt8).toNat) = s ^^^ t ^^^ u ^^^ v := by
      apply Nat.eq_of_testBit_eq
      intro i
      simp only [Nat.testBit_xor, show (0 : UInt8).toNat = 0 by rfl, Nat.zero_testBit]
      cases s.testBit i <;> cases t.testBit i <;> cases u.testBit i <;> cases v.testBit i <;> cases a.toNat.testBit i <;> cases b.toNat.testBit i <;> rfl
    rw [e2, h, iterN_none]
theorem turn_xor (x : Nat) (h : x < 4294967296) : 4294967295 - x = 4294967295 ^^^ x := (xor_ones x h).symm
theorem turn_four {a b c d : Nat} (ha : a < 4294967296) (hb : b < 4294967296) (hc : c < 4294967296) (hd : d < 4294967296) (h : a ^^^ b ^^^ c ^^^ d = 0) :
    (4294967295 - a) ^^^ (4294967295 - b) ^^^ (4294967295 - c) ^^^ (4294967295 - d) = 0 := by
  rw [turn_xor a ha, turn_xor b hb, turn_xor c hc, turn_xor d hd]
  refine Eq.trans ?_ h
  apply Nat.eq_of_testBit_eq
  intro i
  simp only [Nat.testBit_xor]
  cases (4294967295 : Nat).testBit i <;> cases a.testBit i <;> cases b.testBit i <;> cases c.testBit i <;> cases d.testBit i <;> rfl
theorem on_four (n : Nat) (xs ys : List UInt8) (hx : xs.length = n) (hy : ys.length = n) :
    onN tabN 0 (xorB xs ys n) ^^^ onN tabN 0 xs ^^^ onN tabN 0 ys ^^^ onN tabN 0 (List.replicate n 0) = 0 := by
  have h := run_four n xs ys hx hy (4294967295 - 0) (4294967295 - 0) (4294967295 - 0) (4294967295 - 0) (by decide)
  have l := fun zs : List UInt8 => runN_lt tabN tabN_lt zs (4294967295 - 0) (by omega)
  exact turn_four (l _) (l _) (l _) (l _) h

/-- n zeros, as cells. -/
def zeroB (n : Nat) : Array Value := ((List.replicate n (0 : UInt8)).map byteV).toArray
theorem zeroB_made (n : Nat) : madeCells #[.int .u8 0] n = zeroB n := by
  apply Array.ext'
  rw [toList_madeCells_one]
  simp [zeroB, byteV]
theorem infoX : (Try.prog.info? 5).map (fun i => (i.zero, i.size, i.bytes)) = some (some (.int .u8 0), 1, 1) := by kernel_rfl
theorem make_run (n : Nat) (hn : n ≤ 140737488351232) (w : World) :
    (Instr.makeSlice 24 (.int .i64 (n : Nat)) (.int .i64 (n : Nat))).run Try.prog w = .ok (.slice (some ⟨w.heap.size, 0, none⟩) n n) (w.alloc (.cells (zeroB n) 5)) := by
  obtain ⟨i0, hi, hz0, hz1, hz2⟩ := info_parts infoX
  have h := run_make (P := Try.prog) w 24 5 i0 (.int .u8 0) Try.underlying24 hi hz0 .i64 .i64 (n : Nat) (n : Nat) (by omega) (by omega) (by rw [hz2]; omega) (by omega)
  rw [hz1, Nat.mul_one, Int.toNat_natCast] at h
  rw [h, ← zeroB_made]
  rfl

/-- What x has behind i rounds. -/
def mixB (xs ys : List UInt8) (m i : Nat) : Array Value := ((List.range m).map fun k => byteV (if k < i then UInt8.ofNat ((xs.getD k 0).toNat ^^^ (ys.getD k 0).toNat) else 0)).toArray
theorem mixB_size (xs ys : List UInt8) (m i : Nat) : (mixB xs ys m i).size = m := by simp [mixB]
theorem mixB_get (xs ys : List UInt8) (m i k : Nat) (h : k < m) : (mixB xs ys m i)[k]? = some (byteV (if k < i then UInt8.ofNat ((xs.getD k 0).toNat ^^^ (ys.getD k 0).toNat) else 0)) := by
  simp [mixB, h]
theorem mixB_zero (xs ys : List UInt8) (m : Nat) : mixB xs ys m 0 = zeroB m := by
  apply Array.ext_getElem?
  intro k
  by_cases h : k < m
  · rw [mixB_get _ _ _ _ _ h]
    simp [zeroB, h]
  · rw [Array.getElem?_eq_none (by rw [mixB_size]; omega), Array.getElem?_eq_none (by simp [zeroB]; omega)]
theorem mixB_next (xs ys : List UInt8) (m i : Nat) (_h : i < m) (b : UInt8) (hb : UInt8.ofNat ((xs.getD i 0).toNat ^^^ (ys.getD i 0).toNat) = b) : (mixB xs ys m i).setIfInBounds i (.int .u8 (b.toNat : Nat)) = mixB xs ys m (i + 1) := by
  apply Array.ext_getElem?
  intro k
  rw [Array.getElem?_setIfInBounds]
  by_cases hk : k < m
  · rw [mixB_get _ _ _ _ _ hk, mixB_get _ _ _ _ _ hk, mixB_size]
    by_cases e : i = k
    · subst e
      simp [hk, ← hb, byteV]
    · rw [if_neg e]
      by_cases hlt : k < i
      · rw [if_pos hlt, if_pos (by omega)]
      · rw [if_neg hlt, if_neg (by omega)]
  · rw [if_neg (by omega), Array.getElem?_eq_none (by rw [mixB_size]; omega), Array.getElem?_eq_none (by rw [mixB_size]; omega)]
theorem mixB_all (xs ys : List UInt8) (m : Nat) : mixB xs ys m m = ((xorB xs ys m).map byteV).toArray := by
  unfold mixB xorB
  rw [List.map_map]
  congr 1
  apply List.map_congr_left
  intro k hk
  rw [if_pos (by simpa using hk)]
  rfl
theorem xorB_take (xs ys : List UInt8) (m : Nat) : xorB (xs.take m) (ys.take m) m = xorB xs ys m := by
  unfold xorB
  apply List.map_congr_left
  intro k hk
  have hk' : k < m := by simpa using hk
  simp [hk']
theorem xorB_length (xs ys : List UInt8) (m : Nat) : (xorB xs ys m).length = m := by simp [xorB]
theorem spot_cell {w : World} {B n : Nat} {A : Option Addr} {bs : List UInt8} (h : Bytes w B A n bs) {k : Nat} (hk : k < n) : ∃ ad, A = some ad ∧ w.cell? (ad.add k) = some (.int .u8 ((bs.getD k 0).toNat : Nat)) := by
  obtain ⟨ad, e, _, hc⟩ := h.spot hk
  exact ⟨ad, e, hc⟩

theorem xor_bits (a b : UInt8) : bits BinOp.xor IntKind.u8 (a.toNat : Int) (b.toNat : Int) = ((UInt8.ofNat (a.toNat ^^^ b.toNat)).toNat : Int) := by
  rw [xor_byte]
  exact u8_xor a.toNat b.toNat a.toNat_lt b.toNat_lt

set_option maxRecDepth 100000 in
set_option maxHeartbeats 16000000 in
theorem xor_lt (A : Option Addr) (c : Nat) (xs : List UInt8) (A' : Option Addr) (c' : Nat) (ys : List UInt8) (w : World) (m : Nat) (n' : Nat) (hlt : m < n') (ha : Came w A m c xs) (hb : Came w A' n' c' ys) (h9 : m ≤ 9000) :
    Calls Try.prog 6 #[.slice A m c, .slice A' n' c'] w fun e w' => e = .returned (.bool true) ∧ Below w.heap.size w w' := by
  have hz := zeroT
  have hreach := ha.reach
  have hcap := ha.cap
  have hreach' := hb.reach
  have hcap' := hb.cap
  have HA := Lib.hid ha
  have HB := Lib.hid hb
  have hmk := make_run m (by omega)
  have hd9 : decide ((9000 : Int) < (m : Int)) = false := by simp; omega
  clear ha hb
  go_enter Try.func6, Try.ntmps6
  go_wp2_with (fail)
  refine (head_any _).mono ?_
  rintro e w0 ⟨rfl, hb0⟩
  have HB0 := Lib.hid hb0
  clear hb0
  go_wp2_with (fail)
  refine (table_any _).mono ?_
  rintro e w1 ⟨rfl, hb1⟩
  have hb1' := HB0.out.trans (hb1.mono HB0.out.size)
  have HB1 := Lib.hid hb1'
  have hw1 := Whole.made w1 23 (arrV fun _ => 0)
  have Hw1 := Lib.hid hw1
  clear hw1 hb1 hb1' HB0
  have hW : Whole ((w1.alloc (.cells (arrV fun _ => 0) 23)).setRow w1.heap.size (arrV tabN)) w1.heap.size 23 (arrV tabN) := setRow_heap _ _ _ _ _ _ Hw1.out
  have hB : Below w.heap.size w ((w1.alloc (.cells (arrV fun _ => 0) 23)).setRow w1.heap.size (arrV tabN)) := below_setRow (HB1.out.alloc HB1.out.size _) HB1.out.size _
  have HW := Lib.hid hW
  have HBB := Lib.hid hB
  clear hW hB
  go_wp2_with (refine wpList_store_row rfl 23 _ _ rfl w1.heap.size (arrV tabN) rfl rfl 23 _ Hw1.out (by rw [arrV_size]; exact sizeT) (by rw [arrV_size, arrV_size]) (arrV_one _) ?_
               generalize (w1.alloc (.cells (arrV fun _ => 0) 23)).setRow w1.heap.size (arrV tabN) = V at *)
  clear Hw1 HB1
  generalize w1.heap.size = t0 at *
  go_loopw [9] (fun i wr => ∃ j : Nat, j ≤ m ∧ i = .int .i64 j ∧ Whole wr V.heap.size 5 (mixB xs ys m j) ∧ Below V.heap.size V wr) (fun i _ => m - (intOf i).toNat)
  case atStart => exact ⟨0, by omega, rfl, by rw [mixB_zero]; exact Whole.made V _ _, (Below.refl _ _).alloc (Nat.le_refl _) _⟩
  case round =>
    obtain ⟨j, hj, rfl, ho, hbr⟩ := hrel
    have HOR := Lib.hid ho
    have HBR := Lib.hid hbr
    clear ho hbr
    by_cases hlt2 : j < m
    · have ha1 := ((HA.out.bytes.below HBB.out).wider HBB.out.size).below HBR.out
      have hb1 := ((HB.out.bytes.below HBB.out).wider HBB.out.size).below HBR.out
      obtain ⟨ad, hAe, hca⟩ := spot_cell ha1 (show j < m by omega)
      obtain ⟨bd, hBe, hcb⟩ := spot_cell hb1 (show j < n' by omega)
      have hcx := HOR.out.cell j
      rw [mixB_get _ _ _ _ _ hlt2] at hcx
      unfold byteV at hcx
      have hfx := HOR.out.free j
      have hnext := fun b => mixB_next xs ys m j hlt2 b
      have HN := Lib.hid hnext
      clear hnext ha1 hb1
      subst hAe hBe
      have hxr := xor_bits (xs.getD j 0) (ys.getD j 0)
      generalize hae : xs.getD j 0 = a at *
      generalize hbe : ys.getD j 0 = b at *
      generalize hye : UInt8.ofNat (a.toNat ^^^ b.toNat) = y at *
      have HAE := Lib.hid hae
      have HBE := Lib.hid hbe
      have HYE := Lib.hid hye
      clear hae hbe hye
      have bj0 : (0 : Int) ≤ (j : Int) := by omega
      have bj1 : (j : Int) < (m : Int) := by omega
      have bj2 : (j : Int) < (m : Int) := by omega
      have bj3 : (j : Int) < (n' : Int) := by omega
      go_wp2_with (fail)
      go_region
      go_wp2_with (fail)
      go_roundw
      case rel =>
        refine ⟨j + 1, by omega, by go_num, ?_, (HBR.out.setCell (by simp) _).drew⟩
        have hs := HOR.out.put j (.int .u8 (y.toNat : Nat))
        rw [HN.out y rfl] at hs
        exact hs
      case measure => simp [intOf]; omega
    · have hjm : m = j := by omega
      subst hjm
      have hxw := HOR.out
      rw [mixB_all] at hxw
      have hT := HW.out.after' HBR.out
      have hX : Bytes wr wr.heap.size (some ⟨V.heap.size, 0, none⟩) m (xorB xs ys m) := Held.bytes ⟨_, _, hxw⟩ _ rfl (xorB_length _ _ _)
      have hAm : Bytes wr wr.heap.size A m (xs.take m) := ((((HA.out.bytes.below HBB.out).wider HBB.out.size).below HBR.out).wider HBR.out.size).first (by omega)
      have hBm : Bytes wr wr.heap.size A' m (ys.take m) := ((((HB.out.bytes.below HBB.out).wider HBB.out.size).below HBR.out).wider HBR.out.size).first (by omega)
      have hBz := HBB.out.trans (HBR.out.mono HBB.out.size)
      have h4 := on_four m (xs.take m) (ys.take m) (by rw [List.length_take, HA.out.bytes.len]; omega) (by rw [List.length_take, HB.out.bytes.len]; omega)
      rw [xorB_take] at h4
      have HT := Lib.hid hT
      have HX := Lib.hid hX
      have HAm := Lib.hid hAm
      have HBm := Lib.hid hBm
      have HBz := Lib.hid hBz
      clear hxw hT hX hAm hBm hBz
      have l1 := onN_lt tabN 0 (xorB xs ys m)
      have l2 := onN_lt tabN 0 (xs.take m)
      have l3 := onN_lt tabN 0 (ys.take m)
      have l4 := onN_lt tabN 0 (List.replicate m 0)
      generalize he1 : onN tabN 0 (xorB xs ys m) = y1 at *
      generalize he2 : onN tabN 0 (xs.take m) = y2 at *
      generalize he3 : onN tabN 0 (ys.take m) = y3 at *
      generalize he4 : onN tabN 0 (List.replicate m 0) = y4 at *
      have E1 := Lib.hid he1
      have E2 := Lib.hid he2
      have E3 := Lib.hid he3
      have E4 := Lib.hid he4
      clear he1 he2 he3 he4
      have hz1 := u32_xor_nat y1 y2 l1 l2
      have lz1 : y1 ^^^ y2 < 4294967296 := Nat.xor_lt_two_pow (n := 32) l1 l2
      generalize y1 ^^^ y2 = z1 at *
      have hz2 := u32_xor_nat z1 y3 lz1 l3
      have lz2 : z1 ^^^ y3 < 4294967296 := Nat.xor_lt_two_pow (n := 32) lz1 l3
      generalize z1 ^^^ y3 = z2 at *
      have hz3 := u32_xor_nat z2 y4 lz2 l4
      rw [h4] at hz3
      clear h4 lz1 lz2 l1 l2 l3 l4
      generalize V.heap.size = xb at *
      generalize wr = W at *
      have bj1 : (m : Int) ≤ (c : Int) := by omega
      have bj2 : (m : Int) ≤ (c' : Int) := by omega
      have bj3 : (0 : Int) ≤ (m : Int) := by omega
      go_wp2_with (fail)
      refine wp_region_noPanic ?_
      refine wp_region_held_drew (S := fun w' => Grows W w') (by kernel_rfl) ((Grows.refl W).trans ⟨rfl, rfl, rfl, Nat.le_refl _, fun _ _ => rfl⟩) (fun hHeld => ?_)
      have G0 := Lib.hid hHeld
      clear hHeld
      generalize W.drew = W0 at *
      refine wpAnyH_take (i := 0) (oi := { dst := some 39, op := Go.Op.move (Go.Operand.tmp 5), type := 4, pos := "law.go:64", after := #[], guard := none }) (v := .bool true) rfl (by kernel_rfl) (by kernel_rfl) (by kernel_rfl) (fun _ _ _ h => h) (Or.inl ⟨by rfl, ?_⟩) G0.out ?_
      · intro w' hSw; clear hSw; go_simp
      try simp only [Act.put, List.setIfInBounds_toArray, List.set_cons_zero, List.set_cons_succ]
      refine wpAnyH_take (i := 1) (oi := { dst := some 40, op := Go.Op.move (Go.Operand.tmp 39), type := 4, pos := "law.go:64", after := #[{ on := 0, ground := Go.Ground.data }], guard := none }) (v := .bool true) rfl (by kernel_rfl) (by kernel_rfl) (by kernel_rfl) (fun _ _ _ h => h) (Or.inl ⟨by rfl, ?_⟩) G0.out ?_
      · intro w' hSw; clear hSw; go_simp
      try simp only [Act.put, List.setIfInBounds_toArray, List.set_cons_zero, List.set_cons_succ]
      refine wpAnyH_take (i := 2) (oi := { dst := some 41, op := Go.Op.load 23 (Go.Operand.tmp 7), type := 23, pos := "law.go:64", after := #[{ on := 1, ground := Go.Ground.guard }], guard := some (1, true) }) (v := .agg (arrV tabN)) rfl (by kernel_rfl) (by kernel_rfl) (by kernel_rfl) (fun _ _ _ h => h) (take_whole (by rfl) 23 _ rfl t0 rfl 23 (arrV tabN) _ (fun _ h => Grows.whole h HT.out) Try.underlying23 rfl (by rw [arrV_size]; exact sizeT)) G0.out ?_
      try simp only [Act.put, List.setIfInBounds_toArray, List.set_cons_zero, List.set_cons_succ]
      refine wpAnyH_take (i := 3) (oi := { dst := some 42, op := Go.Op.move (Go.Operand.tmp 8), type := 24, pos := "law.go:64", after := #[{ on := 1, ground := Go.Ground.guard }], guard := some (1, true) }) (v := .slice (some ⟨xb, 0, none⟩) m m) rfl (by kernel_rfl) (by kernel_rfl) (by kernel_rfl) (fun _ _ _ h => h) (Or.inl ⟨by rfl, ?_⟩) G0.out ?_
      · intro w' hSw; clear hSw; go_simp
      try simp only [Act.put, List.setIfInBounds_toArray, List.set_cons_zero, List.set_cons_succ]
      refine wpAnyH_take (i := 5) (oi := { dst := some 44, op := Go.Op.load 23 (Go.Operand.tmp 7), type := 23, pos := "law.go:64", after := #[{ on := 1, ground := Go.Ground.guard }], guard := some (1, true) }) (v := .agg (arrV tabN)) rfl (by kernel_rfl) (by kernel_rfl) (by kernel_rfl) (fun _ _ _ h => h) (take_whole (by rfl) 23 _ rfl t0 rfl 23 (arrV tabN) _ (fun _ h => Grows.whole h HT.out) Try.underlying23 rfl (by rw [arrV_size]; exact sizeT)) G0.out ?_
      try simp only [Act.put, List.setIfInBounds_toArray, List.set_cons_zero, List.set_cons_succ]
      refine wpAnyH_take (i := 6) (oi := { dst := some 45, op := Go.Op.move (Go.Operand.tmp 0), type := 24, pos := "law.go:64", after := #[{ on := 1, ground := Go.Ground.guard }], guard := some (1, true) }) (v := .slice A m c) rfl (by kernel_rfl) (by kernel_rfl) (by kernel_rfl) (fun _ _ _ h => h) (Or.inl ⟨by rfl, ?_⟩) G0.out ?_
      · intro w' hSw; clear hSw; go_simp
      try simp only [Act.put, List.setIfInBounds_toArray, List.set_cons_zero, List.set_cons_succ]
      refine wpAnyH_take (i := 7) (oi := { dst := some 46, op := Go.Op.move (Go.Operand.tmp 6), type := 3, pos := "law.go:64", after := #[{ on := 1, ground := Go.Ground.guard }], guard := some (1, true) }) (v := .int .i64 (m : Nat)) rfl (by kernel_rfl) (by kernel_rfl) (by kernel_rfl) (fun _ _ _ h => h) (Or.inl ⟨by rfl, ?_⟩) G0.out ?_
      · intro w' hSw; clear hSw; go_simp
      try simp only [Act.put, List.setIfInBounds_toArray, List.set_cons_zero, List.set_cons_succ]
      refine wpAnyH_take (i := 8) (oi := { dst := some 47, op := Go.Op.slice 24 (Go.Operand.tmp 45) none (some (Go.Operand.tmp 46)) none, type := 24, pos := "law.go:64", after := #[{ on := 6, ground := Go.Ground.data }, { on := 7, ground := Go.Ground.data }, { on := 1, ground := Go.Ground.guard }], guard := some (1, true) }) (v := .slice A m c) rfl (by kernel_rfl) (by kernel_rfl) (by kernel_rfl) (fun _ _ _ h => h) (Or.inl ⟨by rfl, ?_⟩) G0.out ?_
      · intro w' hSw; clear hSw; go_simp
      try simp only [Act.put, List.setIfInBounds_toArray, List.set_cons_zero, List.set_cons_succ]
      refine wpAnyH_take (i := 11) (oi := { dst := some 50, op := Go.Op.load 23 (Go.Operand.tmp 7), type := 23, pos := "law.go:64", after := #[{ on := 1, ground := Go.Ground.guard }], guard := some (1, true) }) (v := .agg (arrV tabN)) rfl (by kernel_rfl) (by kernel_rfl) (by kernel_rfl) (fun _ _ _ h => h) (take_whole (by rfl) 23 _ rfl t0 rfl 23 (arrV tabN) _ (fun _ h => Grows.whole h HT.out) Try.underlying23 rfl (by rw [arrV_size]; exact sizeT)) G0.out ?_
      try simp only [Act.put, List.setIfInBounds_toArray, List.set_cons_zero, List.set_cons_succ]
      refine wpAnyH_take (i := 12) (oi := { dst := some 51, op := Go.Op.move (Go.Operand.tmp 1), type := 24, pos := "law.go:64", after := #[{ on := 1, ground := Go.Ground.guard }], guard := some (1, true) }) (v := .slice A' n' c') rfl (by kernel_rfl) (by kernel_rfl) (by kernel_rfl) (fun _ _ _ h => h) (Or.inl ⟨by rfl, ?_⟩) G0.out ?_
      · intro w' hSw; clear hSw; go_simp
      try simp only [Act.put, List.setIfInBounds_toArray, List.set_cons_zero, List.set_cons_succ]
      refine wpAnyH_take (i := 13) (oi := { dst := some 52, op := Go.Op.move (Go.Operand.tmp 6), type := 3, pos := "law.go:64", after := #[{ on := 1, ground := Go.Ground.guard }], guard := some (1, true) }) (v := .int .i64 (m : Nat)) rfl (by kernel_rfl) (by kernel_rfl) (by kernel_rfl) (fun _ _ _ h => h) (Or.inl ⟨by rfl, ?_⟩) G0.out ?_
      · intro w' hSw; clear hSw; go_simp
      try simp only [Act.put, List.setIfInBounds_toArray, List.set_cons_zero, List.set_cons_succ]
      refine wpAnyH_take (i := 14) (oi := { dst := some 53, op := Go.Op.slice 24 (Go.Operand.tmp 51) none (some (Go.Operand.tmp 52)) none, type := 24, pos := "law.go:64", after := #[{ on := 12, ground := Go.Ground.data }, { on := 13, ground := Go.Ground.data }, { on := 1, ground := Go.Ground.guard }], guard := some (1, true) }) (v := .slice A' m c') rfl (by kernel_rfl) (by kernel_rfl) (by kernel_rfl) (fun _ _ _ h => h) (Or.inl ⟨by rfl, ?_⟩) G0.out ?_
      · intro w' hSw; clear hSw; go_simp
      try simp only [Act.put, List.setIfInBounds_toArray, List.set_cons_zero, List.set_cons_succ]
      refine wpAnyH_take (i := 17) (oi := { dst := some 56, op := Go.Op.load 23 (Go.Operand.tmp 7), type := 23, pos := "law.go:64", after := #[{ on := 1, ground := Go.Ground.guard }], guard := some (1, true) }) (v := .agg (arrV tabN)) rfl (by kernel_rfl) (by kernel_rfl) (by kernel_rfl) (fun _ _ _ h => h) (take_whole (by rfl) 23 _ rfl t0 rfl 23 (arrV tabN) _ (fun _ h => Grows.whole h HT.out) Try.underlying23 rfl (by rw [arrV_size]; exact sizeT)) G0.out ?_
      try simp only [Act.put, List.setIfInBounds_toArray, List.set_cons_zero, List.set_cons_succ]
      refine wpAnyH_take (i := 18) (oi := { dst := some 57, op := Go.Op.move (Go.Operand.tmp 6), type := 3, pos := "law.go:64", after := #[{ on := 1, ground := Go.Ground.guard }], guard := some (1, true) }) (v := .int .i64 (m : Nat)) rfl (by kernel_rfl) (by kernel_rfl) (by kernel_rfl) (fun _ _ _ h => h) (Or.inl ⟨by rfl, ?_⟩) G0.out ?_
      · intro w' hSw; clear hSw; go_simp
      try simp only [Act.put, List.setIfInBounds_toArray, List.set_cons_zero, List.set_cons_succ]
      refine wpAnyH_ready (rs := [4, 19]) (by kernel_rfl) (by simp) ?_
      refine AllReadyH.cons (o := { dst := some 43, op := Go.Op.call { callee := Go.Callee.value (Go.Operand.func 14), args := #[Go.Operand.tmp 41, Go.Operand.tmp 42], argTypes := #[23, 24] }, type := 22, pos := "law.go:64", after := #[{ on := 2, ground := Go.Ground.data }, { on := 3, ground := Go.Ground.data }, { on := 1, ground := Go.Ground.chain }, { on := 1, ground := Go.Ground.guard }], guard := some (1, true) }) rfl (fun K hK => ?_) ?_
      · skip
        go_simp
        refine (of_any tabN tabN_all (some ⟨xb, 0, none⟩) m m _ _ (Grows.bytes G0.out HX.out) (by unfold maxLen; omega)).mono ?_
        rintro e W1 ⟨rfl, a1⟩
        have g1 : Grows W W1 := G0.out.trans a1
        have G1 := Lib.hid g1
        clear a1 g1
        rw [E1.out]
        go_wp2_with (fail)
        refine hK.out _ _ G1.out (fun _ => ?_)
        clear hK K
        try simp only [Act.put, List.setIfInBounds_toArray, List.set_cons_zero, List.set_cons_succ]
        refine wpAnyH_ready (rs := [9, 19]) (by kernel_rfl) (by simp) ?_
        refine AllReadyH.cons (o := { dst := some 48, op := Go.Op.call { callee := Go.Callee.value (Go.Operand.func 14), args := #[Go.Operand.tmp 44, Go.Operand.tmp 47], argTypes := #[23, 24] }, type := 22, pos := "law.go:64", after := #[{ on := 5, ground := Go.Ground.data }, { on := 8, ground := Go.Ground.data }, { on := 4, ground := Go.Ground.chain }, { on := 1, ground := Go.Ground.guard }], guard := some (1, true) }) rfl (fun K hK => ?_) ?_
        · skip
          go_simp
          refine (of_any tabN tabN_all A m c _ _ (Grows.bytes G1.out HAm.out) (by unfold maxLen; omega)).mono ?_
          rintro e W2 ⟨rfl, a2⟩
          have g2 : Grows W W2 := G1.out.trans a2
          have G2 := Lib.hid g2
          clear a2 g2
          rw [E2.out]
          go_wp2_with (fail)
          refine hK.out _ _ G2.out (fun _ => ?_)
          clear hK K
          try simp only [Act.put, List.setIfInBounds_toArray, List.set_cons_zero, List.set_cons_succ]
          refine wpAnyH_take (i := 10) (oi := { dst := some 49, op := Go.Op.binOp Go.BinOp.xor 22 (Go.Operand.tmp 43) (Go.Operand.tmp 48) 22, type := 22, pos := "law.go:64", after := #[{ on := 4, ground := Go.Ground.data }, { on := 9, ground := Go.Ground.data }, { on := 1, ground := Go.Ground.guard }], guard := some (1, true) }) (v := .int .u32 (z1 : Nat)) rfl (by kernel_rfl) (by kernel_rfl) (by kernel_rfl) (fun _ _ _ h => h) (Or.inl ⟨by rfl, ?_⟩) G2.out ?_
          · intro w' hSw; clear hSw; go_simp
          try simp only [Act.put, List.setIfInBounds_toArray, List.set_cons_zero, List.set_cons_succ]
          refine wpAnyH_ready (rs := [15, 19]) (by kernel_rfl) (by simp) ?_
          refine AllReadyH.cons (o := { dst := some 54, op := Go.Op.call { callee := Go.Callee.value (Go.Operand.func 14), args := #[Go.Operand.tmp 50, Go.Operand.tmp 53], argTypes := #[23, 24] }, type := 22, pos := "law.go:64", after := #[{ on := 11, ground := Go.Ground.data }, { on := 14, ground := Go.Ground.data }, { on := 9, ground := Go.Ground.chain }, { on := 1, ground := Go.Ground.guard }], guard := some (1, true) }) rfl (fun K hK => ?_) ?_
          · skip
            go_simp
            refine (of_any tabN tabN_all A' m c' _ _ (Grows.bytes G2.out HBm.out) (by unfold maxLen; omega)).mono ?_
            rintro e W3 ⟨rfl, a3⟩
            have g3 : Grows W W3 := G2.out.trans a3
            have G3 := Lib.hid g3
            clear a3 g3
            rw [E3.out]
            go_wp2_with (fail)
            refine hK.out _ _ G3.out (fun _ => ?_)
            clear hK K
            try simp only [Act.put, List.setIfInBounds_toArray, List.set_cons_zero, List.set_cons_succ]
            refine wpAnyH_take (i := 16) (oi := { dst := some 55, op := Go.Op.binOp Go.BinOp.xor 22 (Go.Operand.tmp 49) (Go.Operand.tmp 54) 22, type := 22, pos := "law.go:64", after := #[{ on := 10, ground := Go.Ground.data }, { on := 15, ground := Go.Ground.data }, { on := 1, ground := Go.Ground.guard }], guard := some (1, true) }) (v := .int .u32 (z2 : Nat)) rfl (by kernel_rfl) (by kernel_rfl) (by kernel_rfl) (fun _ _ _ h => h) (Or.inl ⟨by rfl, ?_⟩) G3.out ?_
            · intro w' hSw; clear hSw; go_simp
            try simp only [Act.put, List.setIfInBounds_toArray, List.set_cons_zero, List.set_cons_succ]
            refine wpAnyH_ready (rs := [19]) (by kernel_rfl) (by simp) ?_
            refine AllReadyH.cons (o := { dst := some 58, op := Go.Op.makeSlice 24 (Go.Operand.tmp 57) (Go.Operand.tmp 57), type := 24, pos := "law.go:64", after := #[{ on := 18, ground := Go.Ground.data }, { on := 18, ground := Go.Ground.data }, { on := 1, ground := Go.Ground.guard }], guard := some (1, true) }) rfl (fun K hK => ?_) AllReadyH.nil
            go_simp
            have n4 : Held (W3.alloc (.cells (zeroB m) 5)) W3.heap.size (zeroB m) := ⟨_, _, Whole.made W3 _ _⟩
            have g4 : Grows W (W3.alloc (.cells (zeroB m) 5)) := G3.out.trans ((Below.refl _ _).alloc (Nat.le_refl _) _)
            refine hK.out _ _ g4 (fun _ => ?_)
            clear hK K
            try simp only [Act.put, List.setIfInBounds_toArray, List.set_cons_zero, List.set_cons_succ]
            generalize W3.alloc (.cells (zeroB m) 5) = W4 at *
            generalize W3.heap.size = i4 at *
            have N4 := Lib.hid n4
            have G4 := Lib.hid g4
            clear n4 g4
            refine wpAnyH_ready (rs := [20]) (by kernel_rfl) (by simp) ?_
            refine AllReadyH.cons (o := { dst := some 59, op := Go.Op.call { callee := Go.Callee.value (Go.Operand.func 14), args := #[Go.Operand.tmp 56, Go.Operand.tmp 58], argTypes := #[23, 24] }, type := 22, pos := "law.go:64", after := #[{ on := 17, ground := Go.Ground.data }, { on := 19, ground := Go.Ground.data }, { on := 15, ground := Go.Ground.chain }, { on := 1, ground := Go.Ground.guard }], guard := some (1, true) }) rfl (fun K hK => ?_) AllReadyH.nil
            go_simp
            refine (of_any tabN tabN_all (some ⟨i4, 0, none⟩) m m _ _ (N4.out.bytes (List.replicate m 0) rfl (by simp)) (by unfold maxLen; omega)).mono ?_
            rintro e W5 ⟨rfl, a5⟩
            have g5 : Grows W W5 := G4.out.trans a5
            have n5 := N4.out.after' a5
            have N5 := Lib.hid n5
            clear n5
            have G5 := Lib.hid g5
            clear a5 g5
            rw [E4.out]
            go_wp2_with (fail)
            refine hK.out _ _ G5.out (fun _ => ?_)
            clear hK K
            try simp only [Act.put, List.setIfInBounds_toArray, List.set_cons_zero, List.set_cons_succ]
            refine wpAnyH_take (i := 21) (oi := { dst := some 60, op := Go.Op.binOp Go.BinOp.xor 22 (Go.Operand.tmp 55) (Go.Operand.tmp 59) 22, type := 22, pos := "law.go:64", after := #[{ on := 16, ground := Go.Ground.data }, { on := 20, ground := Go.Ground.data }, { on := 1, ground := Go.Ground.guard }], guard := some (1, true) }) (v := .int .u32 0) rfl (by kernel_rfl) (by kernel_rfl) (by kernel_rfl) (fun _ _ _ h => h) (Or.inl ⟨by rfl, ?_⟩) G5.out ?_
            · intro w' hSw; clear hSw; go_simp
            try simp only [Act.put, List.setIfInBounds_toArray, List.set_cons_zero, List.set_cons_succ]
            refine wpAnyH_take (i := 22) (oi := { dst := some 61, op := Go.Op.binOp Go.BinOp.eql 22 (Go.Operand.tmp 60) (Go.Operand.const (Go.Value.int Go.IntKind.u32 0)) 22, type := 4, pos := "law.go:64", after := #[{ on := 21, ground := Go.Ground.data }, { on := 1, ground := Go.Ground.guard }], guard := some (1, true) }) (v := .bool true) rfl (by kernel_rfl) (by kernel_rfl) (by kernel_rfl) (fun _ _ _ h => h) (Or.inl ⟨by rfl, ?_⟩) G5.out ?_
            · intro w' hSw; clear hSw; go_simp
            try simp only [Act.put, List.setIfInBounds_toArray, List.set_cons_zero, List.set_cons_succ]
            refine wpAnyH_take (i := 23) (oi := { dst := some 62, op := Go.Op.pick (Go.Operand.tmp 40) (Go.Operand.tmp 61) (Go.Operand.const (Go.Value.bool false)), type := 4, pos := "law.go:64", after := #[{ on := 1, ground := Go.Ground.data }, { on := 22, ground := Go.Ground.data }], guard := none }) (v := .bool true) rfl (by kernel_rfl) (by kernel_rfl) (by kernel_rfl) (fun _ _ _ h => h) (Or.inl ⟨by rfl, ?_⟩) G5.out ?_
            · intro w' hSw; clear hSw; go_simp
            try simp only [Act.put, List.setIfInBounds_toArray, List.set_cons_zero, List.set_cons_succ]
            refine wpAnyH_take (i := 24) (oi := { dst := some 4, op := Go.Op.assign (Go.Operand.tmp 62), type := 4, pos := "law.go:64", after := #[{ on := 23, ground := Go.Ground.data }, { on := 20, ground := Go.Ground.chain }, { on := 0, ground := Go.Ground.phase }, { on := 1, ground := Go.Ground.phase }, { on := 2, ground := Go.Ground.phase }, { on := 3, ground := Go.Ground.phase }, { on := 4, ground := Go.Ground.phase }, { on := 5, ground := Go.Ground.phase }, { on := 6, ground := Go.Ground.phase }, { on := 7, ground := Go.Ground.phase }, { on := 8, ground := Go.Ground.phase }, { on := 9, ground := Go.Ground.phase }, { on := 10, ground := Go.Ground.phase }, { on := 11, ground := Go.Ground.phase }, { on := 12, ground := Go.Ground.phase }, { on := 13, ground := Go.Ground.phase }, { on := 14, ground := Go.Ground.phase }, { on := 15, ground := Go.Ground.phase }, { on := 16, ground := Go.Ground.phase }, { on := 17, ground := Go.Ground.phase }, { on := 18, ground := Go.Ground.phase }, { on := 19, ground := Go.Ground.phase }, { on := 20, ground := Go.Ground.phase }, { on := 21, ground := Go.Ground.phase }, { on := 22, ground := Go.Ground.phase }, { on := 23, ground := Go.Ground.phase }], guard := none }) (v := .bool true) rfl (by kernel_rfl) (by kernel_rfl) (by kernel_rfl) (fun _ _ _ h => h) (Or.inl ⟨by rfl, ?_⟩) G5.out ?_
            · intro w' hSw; clear hSw; go_simp
            try simp only [Act.put, List.setIfInBounds_toArray, List.set_cons_zero, List.set_cons_succ]
            refine wpAnyH_done (by kernel_rfl) ?_ _
            refine NoPanic.normal ?_
            have bz := HBz.out.trans ((G5.out : Below _ _ _).mono HBz.out.size)
            go_wp2_with (fail)
            go_ret
            exact ⟨rfl, bz⟩
          refine AllReadyH.cons (o := { dst := some 58, op := Go.Op.makeSlice 24 (Go.Operand.tmp 57) (Go.Operand.tmp 57), type := 24, pos := "law.go:64", after := #[{ on := 18, ground := Go.Ground.data }, { on := 18, ground := Go.Ground.data }, { on := 1, ground := Go.Ground.guard }], guard := some (1, true) }) rfl (fun K hK => ?_) ?_
          · skip
            go_simp
            have n6 : Held (W2.alloc (.cells (zeroB m) 5)) W2.heap.size (zeroB m) := ⟨_, _, Whole.made W2 _ _⟩
            have g6 : Grows W (W2.alloc (.cells (zeroB m) 5)) := G2.out.trans ((Below.refl _ _).alloc (Nat.le_refl _) _)
            refine hK.out _ _ g6 (fun _ => ?_)
            clear hK K
            try simp only [Act.put, List.setIfInBounds_toArray, List.set_cons_zero, List.set_cons_succ]
            generalize W2.alloc (.cells (zeroB m) 5) = W6 at *
            generalize W2.heap.size = i6 at *
            have N6 := Lib.hid n6
            have G6 := Lib.hid g6
            clear n6 g6
            refine wpAnyH_ready (rs := [15]) (by kernel_rfl) (by simp) ?_
            refine AllReadyH.cons (o := { dst := some 54, op := Go.Op.call { callee := Go.Callee.value (Go.Operand.func 14), args := #[Go.Operand.tmp 50, Go.Operand.tmp 53], argTypes := #[23, 24] }, type := 22, pos := "law.go:64", after := #[{ on := 11, ground := Go.Ground.data }, { on := 14, ground := Go.Ground.data }, { on := 9, ground := Go.Ground.chain }, { on := 1, ground := Go.Ground.guard }], guard := some (1, true) }) rfl (fun K hK => ?_) AllReadyH.nil
            go_simp
            refine (of_any tabN tabN_all A' m c' _ _ (Grows.bytes G6.out HBm.out) (by unfold maxLen; omega)).mono ?_
            rintro e W7 ⟨rfl, a7⟩
            have g7 : Grows W W7 := G6.out.trans a7
            have n7 := N6.out.after' a7
            have N7 := Lib.hid n7
            clear n7
            have G7 := Lib.hid g7
            clear a7 g7
            rw [E3.out]
            go_wp2_with (fail)
            refine hK.out _ _ G7.out (fun _ => ?_)
            clear hK K
            try simp only [Act.put, List.setIfInBounds_toArray, List.set_cons_zero, List.set_cons_succ]
            refine wpAnyH_take (i := 16) (oi := { dst := some 55, op := Go.Op.binOp Go.BinOp.xor 22 (Go.Operand.tmp 49) (Go.Operand.tmp 54) 22, type := 22, pos := "law.go:64", after := #[{ on := 10, ground := Go.Ground.data }, { on := 15, ground := Go.Ground.data }, { on := 1, ground := Go.Ground.guard }], guard := some (1, true) }) (v := .int .u32 (z2 : Nat)) rfl (by kernel_rfl) (by kernel_rfl) (by kernel_rfl) (fun _ _ _ h => h) (Or.inl ⟨by rfl, ?_⟩) G7.out ?_
            · intro w' hSw; clear hSw; go_simp
            try simp only [Act.put, List.setIfInBounds_toArray, List.set_cons_zero, List.set_cons_succ]
            refine wpAnyH_ready (rs := [20]) (by kernel_rfl) (by simp) ?_
            refine AllReadyH.cons (o := { dst := some 59, op := Go.Op.call { callee := Go.Callee.value (Go.Operand.func 14), args := #[Go.Operand.tmp 56, Go.Operand.tmp 58], argTypes := #[23, 24] }, type := 22, pos := "law.go:64", after := #[{ on := 17, ground := Go.Ground.data }, { on := 19, ground := Go.Ground.data }, { on := 15, ground := Go.Ground.chain }, { on := 1, ground := Go.Ground.guard }], guard := some (1, true) }) rfl (fun K hK => ?_) AllReadyH.nil
            go_simp
            refine (of_any tabN tabN_all (some ⟨i6, 0, none⟩) m m _ _ (N7.out.bytes (List.replicate m 0) rfl (by simp)) (by unfold maxLen; omega)).mono ?_
            rintro e W8 ⟨rfl, a8⟩
            have g8 : Grows W W8 := G7.out.trans a8
            have n8 := N7.out.after' a8
            have N8 := Lib.hid n8
            clear n8
            have G8 := Lib.hid g8
            clear a8 g8
            rw [E4.out]
            go_wp2_with (fail)
            refine hK.out _ _ G8.out (fun _ => ?_)
            clear hK K
            try simp only [Act.put, List.setIfInBounds_toArray, List.set_cons_zero, List.set_cons_succ]
            refine wpAnyH_take (i := 21) (oi := { dst := some 60, op := Go.Op.binOp Go.BinOp.xor 22 (Go.Operand.tmp 55) (Go.Operand.tmp 59) 22, type := 22, pos := "law.go:64", after := #[{ on := 16, ground := Go.Ground.data }, { on := 20, ground := Go.Ground.data }, { on := 1, ground := Go.Ground.guard }], guard := some (1, true) }) (v := .int .u32 0) rfl (by kernel_rfl) (by kernel_rfl) (by kernel_rfl) (fun _ _ _ h => h) (Or.inl ⟨by rfl, ?_⟩) G8.out ?_
            · intro w' hSw; clear hSw; go_simp
            try simp only [Act.put, List.setIfInBounds_toArray, List.set_cons_zero, List.set_cons_succ]
            refine wpAnyH_take (i := 22) (oi := { dst := some 61, op := Go.Op.binOp Go.BinOp.eql 22 (Go.Operand.tmp 60) (Go.Operand.const (Go.Value.int Go.IntKind.u32 0)) 22, type := 4, pos := "law.go:64", after := #[{ on := 21, ground := Go.Ground.data }, { on := 1, ground := Go.Ground.guard }], guard := some (1, true) }) (v := .bool true) rfl (by kernel_rfl) (by kernel_rfl) (by kernel_rfl) (fun _ _ _ h => h) (Or.inl ⟨by rfl, ?_⟩) G8.out ?_
            · intro w' hSw; clear hSw; go_simp
            try simp only [Act.put, List.setIfInBounds_toArray, List.set_cons_zero, List.set_cons_succ]
            refine wpAnyH_take (i := 23) (oi := { dst := some 62, op := Go.Op.pick (Go.Operand.tmp 40) (Go.Operand.tmp 61) (Go.Operand.const (Go.Value.bool false)), type := 4, pos := "law.go:64", after := #[{ on := 1, ground := Go.Ground.data }, { on := 22, ground := Go.Ground.data }], guard := none }) (v := .bool true) rfl (by kernel_rfl) (by kernel_rfl) (by kernel_rfl) (fun _ _ _ h => h) (Or.inl ⟨by rfl, ?_⟩) G8.out ?_
            · intro w' hSw; clear hSw; go_simp
            try simp only [Act.put, List.setIfInBounds_toArray, List.set_cons_zero, List.set_cons_succ]
            refine wpAnyH_take (i := 24) (oi := { dst := some 4, op := Go.Op.assign (Go.Operand.tmp 62), type := 4, pos := "law.go:64", after := #[{ on := 23, ground := Go.Ground.data }, { on := 20, ground := Go.Ground.chain }, { on := 0, ground := Go.Ground.phase }, { on := 1, ground := Go.Ground.phase }, { on := 2, ground := Go.Ground.phase }, { on := 3, ground := Go.Ground.phase }, { on := 4, ground := Go.Ground.phase }, { on := 5, ground := Go.Ground.phase }, { on := 6, ground := Go.Ground.phase }, { on := 7, ground := Go.Ground.phase }, { on := 8, ground := Go.Ground.phase }, { on := 9, ground := Go.Ground.phase }, { on := 10, ground := Go.Ground.phase }, { on := 11, ground := Go.Ground.phase }, { on := 12, ground := Go.Ground.phase }, { on := 13, ground := Go.Ground.phase }, { on := 14, ground := Go.Ground.phase }, { on := 15, ground := Go.Ground.phase }, { on := 16, ground := Go.Ground.phase }, { on := 17, ground := Go.Ground.phase }, { on := 18, ground := Go.Ground.phase }, { on := 19, ground := Go.Ground.phase }, { on := 20, ground := Go.Ground.phase }, { on := 21, ground := Go.Ground.phase }, { on := 22, ground := Go.Ground.phase }, { on := 23, ground := Go.Ground.phase }], guard := none }) (v := .bool true) rfl (by kernel_rfl) (by kernel_rfl) (by kernel_rfl) (fun _ _ _ h => h) (Or.inl ⟨by rfl, ?_⟩) G8.out ?_
            · intro w' hSw; clear hSw; go_simp
            try simp only [Act.put, List.setIfInBounds_toArray, List.set_cons_zero, List.set_cons_succ]
            refine wpAnyH_done (by kernel_rfl) ?_ _
            refine NoPanic.normal ?_
            have bz := HBz.out.trans ((G8.out : Below _ _ _).mono HBz.out.size)
            go_wp2_with (fail)
            go_ret
            exact ⟨rfl, bz⟩
          exact AllReadyH.nil
        refine AllReadyH.cons (o := { dst := some 58, op := Go.Op.makeSlice 24 (Go.Operand.tmp 57) (Go.Operand.tmp 57), type := 24, pos := "law.go:64", after := #[{ on := 18, ground := Go.Ground.data }, { on := 18, ground := Go.Ground.data }, { on := 1, ground := Go.Ground.guard }], guard := some (1, true) }) rfl (fun K hK => ?_) ?_
        · skip
          go_simp
          have n9 : Held (W1.alloc (.cells (zeroB m) 5)) W1.heap.size (zeroB m) := ⟨_, _, Whole.made W1 _ _⟩
          have g9 : Grows W (W1.alloc (.cells (zeroB m) 5)) := G1.out.trans ((Below.refl _ _).alloc (Nat.le_refl _) _)
          refine hK.out _ _ g9 (fun _ => ?_)
          clear hK K
          try simp only [Act.put, List.setIfInBounds_toArray, List.set_cons_zero, List.set_cons_succ]
          generalize W1.alloc (.cells (zeroB m) 5) = W9 at *
          generalize W1.heap.size = i9 at *
          have N9 := Lib.hid n9
          have G9 := Lib.hid g9
          clear n9 g9
          refine wpAnyH_ready (rs := [9]) (by kernel_rfl) (by simp) ?_
          refine AllReadyH.cons (o := { dst := some 48, op := Go.Op.call { callee := Go.Callee.value (Go.Operand.func 14), args := #[Go.Operand.tmp 44, Go.Operand.tmp 47], argTypes := #[23, 24] }, type := 22, pos := "law.go:64", after := #[{ on := 5, ground := Go.Ground.data }, { on := 8, ground := Go.Ground.data }, { on := 4, ground := Go.Ground.chain }, { on := 1, ground := Go.Ground.guard }], guard := some (1, true) }) rfl (fun K hK => ?_) AllReadyH.nil
          go_simp
          refine (of_any tabN tabN_all A m c _ _ (Grows.bytes G9.out HAm.out) (by unfold maxLen; omega)).mono ?_
          rintro e W10 ⟨rfl, a10⟩
          have g10 : Grows W W10 := G9.out.trans a10
          have n10 := N9.out.after' a10
          have N10 := Lib.hid n10
          clear n10
          have G10 := Lib.hid g10
          clear a10 g10
          rw [E2.out]
          go_wp2_with (fail)
          refine hK.out _ _ G10.out (fun _ => ?_)
          clear hK K
          try simp only [Act.put, List.setIfInBounds_toArray, List.set_cons_zero, List.set_cons_succ]
          refine wpAnyH_take (i := 10) (oi := { dst := some 49, op := Go.Op.binOp Go.BinOp.xor 22 (Go.Operand.tmp 43) (Go.Operand.tmp 48) 22, type := 22, pos := "law.go:64", after := #[{ on := 4, ground := Go.Ground.data }, { on := 9, ground := Go.Ground.data }, { on := 1, ground := Go.Ground.guard }], guard := some (1, true) }) (v := .int .u32 (z1 : Nat)) rfl (by kernel_rfl) (by kernel_rfl) (by kernel_rfl) (fun _ _ _ h => h) (Or.inl ⟨by rfl, ?_⟩) G10.out ?_
          · intro w' hSw; clear hSw; go_simp
          try simp only [Act.put, List.setIfInBounds_toArray, List.set_cons_zero, List.set_cons_succ]
          refine wpAnyH_ready (rs := [15]) (by kernel_rfl) (by simp) ?_
          refine AllReadyH.cons (o := { dst := some 54, op := Go.Op.call { callee := Go.Callee.value (Go.Operand.func 14), args := #[Go.Operand.tmp 50, Go.Operand.tmp 53], argTypes := #[23, 24] }, type := 22, pos := "law.go:64", after := #[{ on := 11, ground := Go.Ground.data }, { on := 14, ground := Go.Ground.data }, { on := 9, ground := Go.Ground.chain }, { on := 1, ground := Go.Ground.guard }], guard := some (1, true) }) rfl (fun K hK => ?_) AllReadyH.nil
          go_simp
          refine (of_any tabN tabN_all A' m c' _ _ (Grows.bytes G10.out HBm.out) (by unfold maxLen; omega)).mono ?_
          rintro e W11 ⟨rfl, a11⟩
          have g11 : Grows W W11 := G10.out.trans a11
          have n11 := N10.out.after' a11
          have N11 := Lib.hid n11
          clear n11
          have G11 := Lib.hid g11
          clear a11 g11
          rw [E3.out]
          go_wp2_with (fail)
          refine hK.out _ _ G11.out (fun _ => ?_)
          clear hK K
          try simp only [Act.put, List.setIfInBounds_toArray, List.set_cons_zero, List.set_cons_succ]
          refine wpAnyH_take (i := 16) (oi := { dst := some 55, op := Go.Op.binOp Go.BinOp.xor 22 (Go.Operand.tmp 49) (Go.Operand.tmp 54) 22, type := 22, pos := "law.go:64", after := #[{ on := 10, ground := Go.Ground.data }, { on := 15, ground := Go.Ground.data }, { on := 1, ground := Go.Ground.guard }], guard := some (1, true) }) (v := .int .u32 (z2 : Nat)) rfl (by kernel_rfl) (by kernel_rfl) (by kernel_rfl) (fun _ _ _ h => h) (Or.inl ⟨by rfl, ?_⟩) G11.out ?_
          · intro w' hSw; clear hSw; go_simp
          try simp only [Act.put, List.setIfInBounds_toArray, List.set_cons_zero, List.set_cons_succ]
          refine wpAnyH_ready (rs := [20]) (by kernel_rfl) (by simp) ?_
          refine AllReadyH.cons (o := { dst := some 59, op := Go.Op.call { callee := Go.Callee.value (Go.Operand.func 14), args := #[Go.Operand.tmp 56, Go.Operand.tmp 58], argTypes := #[23, 24] }, type := 22, pos := "law.go:64", after := #[{ on := 17, ground := Go.Ground.data }, { on := 19, ground := Go.Ground.data }, { on := 15, ground := Go.Ground.chain }, { on := 1, ground := Go.Ground.guard }], guard := some (1, true) }) rfl (fun K hK => ?_) AllReadyH.nil
          go_simp
          refine (of_any tabN tabN_all (some ⟨i9, 0, none⟩) m m _ _ (N11.out.bytes (List.replicate m 0) rfl (by simp)) (by unfold maxLen; omega)).mono ?_
          rintro e W12 ⟨rfl, a12⟩
          have g12 : Grows W W12 := G11.out.trans a12
          have n12 := N11.out.after' a12
          have N12 := Lib.hid n12
          clear n12
          have G12 := Lib.hid g12
          clear a12 g12
          rw [E4.out]
          go_wp2_with (fail)
          refine hK.out _ _ G12.out (fun _ => ?_)
          clear hK K
          try simp only [Act.put, List.setIfInBounds_toArray, List.set_cons_zero, List.set_cons_succ]
          refine wpAnyH_take (i := 21) (oi := { dst := some 60, op := Go.Op.binOp Go.BinOp.xor 22 (Go.Operand.tmp 55) (Go.Operand.tmp 59) 22, type := 22, pos := "law.go:64", after := #[{ on := 16, ground := Go.Ground.data }, { on := 20, ground := Go.Ground.data }, { on := 1, ground := Go.Ground.guard }], guard := some (1, true) }) (v := .int .u32 0) rfl (by kernel_rfl) (by kernel_rfl) (by kernel_rfl) (fun _ _ _ h => h) (Or.inl ⟨by rfl, ?_⟩) G12.out ?_
          · intro w' hSw; clear hSw; go_simp
          try simp only [Act.put, List.setIfInBounds_toArray, List.set_cons_zero, List.set_cons_succ]
          refine wpAnyH_take (i := 22) (oi := { dst := some 61, op := Go.Op.binOp Go.BinOp.eql 22 (Go.Operand.tmp 60) (Go.Operand.const (Go.Value.int Go.IntKind.u32 0)) 22, type := 4, pos := "law.go:64", after := #[{ on := 21, ground := Go.Ground.data }, { on := 1, ground := Go.Ground.guard }], guard := some (1, true) }) (v := .bool true) rfl (by kernel_rfl) (by kernel_rfl) (by kernel_rfl) (fun _ _ _ h => h) (Or.inl ⟨by rfl, ?_⟩) G12.out ?_
          · intro w' hSw; clear hSw; go_simp
          try simp only [Act.put, List.setIfInBounds_toArray, List.set_cons_zero, List.set_cons_succ]
          refine wpAnyH_take (i := 23) (oi := { dst := some 62, op := Go.Op.pick (Go.Operand.tmp 40) (Go.Operand.tmp 61) (Go.Operand.const (Go.Value.bool false)), type := 4, pos := "law.go:64", after := #[{ on := 1, ground := Go.Ground.data }, { on := 22, ground := Go.Ground.data }], guard := none }) (v := .bool true) rfl (by kernel_rfl) (by kernel_rfl) (by kernel_rfl) (fun _ _ _ h => h) (Or.inl ⟨by rfl, ?_⟩) G12.out ?_
          · intro w' hSw; clear hSw; go_simp
          try simp only [Act.put, List.setIfInBounds_toArray, List.set_cons_zero, List.set_cons_succ]
          refine wpAnyH_take (i := 24) (oi := { dst := some 4, op := Go.Op.assign (Go.Operand.tmp 62), type := 4, pos := "law.go:64", after := #[{ on := 23, ground := Go.Ground.data }, { on := 20, ground := Go.Ground.chain }, { on := 0, ground := Go.Ground.phase }, { on := 1, ground := Go.Ground.phase }, { on := 2, ground := Go.Ground.phase }, { on := 3, ground := Go.Ground.phase }, { on := 4, ground := Go.Ground.phase }, { on := 5, ground := Go.Ground.phase }, { on := 6, ground := Go.Ground.phase }, { on := 7, ground := Go.Ground.phase }, { on := 8, ground := Go.Ground.phase }, { on := 9, ground := Go.Ground.phase }, { on := 10, ground := Go.Ground.phase }, { on := 11, ground := Go.Ground.phase }, { on := 12, ground := Go.Ground.phase }, { on := 13, ground := Go.Ground.phase }, { on := 14, ground := Go.Ground.phase }, { on := 15, ground := Go.Ground.phase }, { on := 16, ground := Go.Ground.phase }, { on := 17, ground := Go.Ground.phase }, { on := 18, ground := Go.Ground.phase }, { on := 19, ground := Go.Ground.phase }, { on := 20, ground := Go.Ground.phase }, { on := 21, ground := Go.Ground.phase }, { on := 22, ground := Go.Ground.phase }, { on := 23, ground := Go.Ground.phase }], guard := none }) (v := .bool true) rfl (by kernel_rfl) (by kernel_rfl) (by kernel_rfl) (fun _ _ _ h => h) (Or.inl ⟨by rfl, ?_⟩) G12.out ?_
          · intro w' hSw; clear hSw; go_simp
          try simp only [Act.put, List.setIfInBounds_toArray, List.set_cons_zero, List.set_cons_succ]
          refine wpAnyH_done (by kernel_rfl) ?_ _
          refine NoPanic.normal ?_
          have bz := HBz.out.trans ((G12.out : Below _ _ _).mono HBz.out.size)
          go_wp2_with (fail)
          go_ret
          exact ⟨rfl, bz⟩
        exact AllReadyH.nil
      refine AllReadyH.cons (o := { dst := some 58, op := Go.Op.makeSlice 24 (Go.Operand.tmp 57) (Go.Operand.tmp 57), type := 24, pos := "law.go:64", after := #[{ on := 18, ground := Go.Ground.data }, { on := 18, ground := Go.Ground.data }, { on := 1, ground := Go.Ground.guard }], guard := some (1, true) }) rfl (fun K hK => ?_) ?_
      · skip
        go_simp
        have n13 : Held (W0.alloc (.cells (zeroB m) 5)) W0.heap.size (zeroB m) := ⟨_, _, Whole.made W0 _ _⟩
        have g13 : Grows W (W0.alloc (.cells (zeroB m) 5)) := G0.out.trans ((Below.refl _ _).alloc (Nat.le_refl _) _)
        refine hK.out _ _ g13 (fun _ => ?_)
        clear hK K
        try simp only [Act.put, List.setIfInBounds_toArray, List.set_cons_zero, List.set_cons_succ]
        generalize W0.alloc (.cells (zeroB m) 5) = W13 at *
        generalize W0.heap.size = i13 at *
        have N13 := Lib.hid n13
        have G13 := Lib.hid g13
        clear n13 g13
        refine wpAnyH_ready (rs := [4]) (by kernel_rfl) (by simp) ?_
        refine AllReadyH.cons (o := { dst := some 43, op := Go.Op.call { callee := Go.Callee.value (Go.Operand.func 14), args := #[Go.Operand.tmp 41, Go.Operand.tmp 42], argTypes := #[23, 24] }, type := 22, pos := "law.go:64", after := #[{ on := 2, ground := Go.Ground.data }, { on := 3, ground := Go.Ground.data }, { on := 1, ground := Go.Ground.chain }, { on := 1, ground := Go.Ground.guard }], guard := some (1, true) }) rfl (fun K hK => ?_) AllReadyH.nil
        go_simp
        refine (of_any tabN tabN_all (some ⟨xb, 0, none⟩) m m _ _ (Grows.bytes G13.out HX.out) (by unfold maxLen; omega)).mono ?_
        rintro e W14 ⟨rfl, a14⟩
        have g14 : Grows W W14 := G13.out.trans a14
        have n14 := N13.out.after' a14
        have N14 := Lib.hid n14
        clear n14
        have G14 := Lib.hid g14
        clear a14 g14
        rw [E1.out]
        go_wp2_with (fail)
        refine hK.out _ _ G14.out (fun _ => ?_)
        clear hK K
        try simp only [Act.put, List.setIfInBounds_toArray, List.set_cons_zero, List.set_cons_succ]
        refine wpAnyH_ready (rs := [9]) (by kernel_rfl) (by simp) ?_
        refine AllReadyH.cons (o := { dst := some 48, op := Go.Op.call { callee := Go.Callee.value (Go.Operand.func 14), args := #[Go.Operand.tmp 44, Go.Operand.tmp 47], argTypes := #[23, 24] }, type := 22, pos := "law.go:64", after := #[{ on := 5, ground := Go.Ground.data }, { on := 8, ground := Go.Ground.data }, { on := 4, ground := Go.Ground.chain }, { on := 1, ground := Go.Ground.guard }], guard := some (1, true) }) rfl (fun K hK => ?_) AllReadyH.nil
        go_simp
        refine (of_any tabN tabN_all A m c _ _ (Grows.bytes G14.out HAm.out) (by unfold maxLen; omega)).mono ?_
        rintro e W15 ⟨rfl, a15⟩
        have g15 : Grows W W15 := G14.out.trans a15
        have n15 := N14.out.after' a15
        have N15 := Lib.hid n15
        clear n15
        have G15 := Lib.hid g15
        clear a15 g15
        rw [E2.out]
        go_wp2_with (fail)
        refine hK.out _ _ G15.out (fun _ => ?_)
        clear hK K
        try simp only [Act.put, List.setIfInBounds_toArray, List.set_cons_zero, List.set_cons_succ]
        refine wpAnyH_take (i := 10) (oi := { dst := some 49, op := Go.Op.binOp Go.BinOp.xor 22 (Go.Operand.tmp 43) (Go.Operand.tmp 48) 22, type := 22, pos := "law.go:64", after := #[{ on := 4, ground := Go.Ground.data }, { on := 9, ground := Go.Ground.data }, { on := 1, ground := Go.Ground.guard }], guard := some (1, true) }) (v := .int .u32 (z1 : Nat)) rfl (by kernel_rfl) (by kernel_rfl) (by kernel_rfl) (fun _ _ _ h => h) (Or.inl ⟨by rfl, ?_⟩) G15.out ?_
        · intro w' hSw; clear hSw; go_simp
        try simp only [Act.put, List.setIfInBounds_toArray, List.set_cons_zero, List.set_cons_succ]
        refine wpAnyH_ready (rs := [15]) (by kernel_rfl) (by simp) ?_
        refine AllReadyH.cons (o := { dst := some 54, op := Go.Op.call { callee := Go.Callee.value (Go.Operand.func 14), args := #[Go.Operand.tmp 50, Go.Operand.tmp 53], argTypes := #[23, 24] }, type := 22, pos := "law.go:64", after := #[{ on := 11, ground := Go.Ground.data }, { on := 14, ground := Go.Ground.data }, { on := 9, ground := Go.Ground.chain }, { on := 1, ground := Go.Ground.guard }], guard := some (1, true) }) rfl (fun K hK => ?_) AllReadyH.nil
        go_simp
        refine (of_any tabN tabN_all A' m c' _ _ (Grows.bytes G15.out HBm.out) (by unfold maxLen; omega)).mono ?_
        rintro e W16 ⟨rfl, a16⟩
        have g16 : Grows W W16 := G15.out.trans a16
        have n16 := N15.out.after' a16
        have N16 := Lib.hid n16
        clear n16
        have G16 := Lib.hid g16
        clear a16 g16
        rw [E3.out]
        go_wp2_with (fail)
        refine hK.out _ _ G16.out (fun _ => ?_)
        clear hK K
        try simp only [Act.put, List.setIfInBounds_toArray, List.set_cons_zero, List.set_cons_succ]
        refine wpAnyH_take (i := 16) (oi := { dst := some 55, op := Go.Op.binOp Go.BinOp.xor 22 (Go.Operand.tmp 49) (Go.Operand.tmp 54) 22, type := 22, pos := "law.go:64", after := #[{ on := 10, ground := Go.Ground.data }, { on := 15, ground := Go.Ground.data }, { on := 1, ground := Go.Ground.guard }], guard := some (1, true) }) (v := .int .u32 (z2 : Nat)) rfl (by kernel_rfl) (by kernel_rfl) (by kernel_rfl) (fun _ _ _ h => h) (Or.inl ⟨by rfl, ?_⟩) G16.out ?_
        · intro w' hSw; clear hSw; go_simp
        try simp only [Act.put, List.setIfInBounds_toArray, List.set_cons_zero, List.set_cons_succ]
        refine wpAnyH_ready (rs := [20]) (by kernel_rfl) (by simp) ?_
        refine AllReadyH.cons (o := { dst := some 59, op := Go.Op.call { callee := Go.Callee.value (Go.Operand.func 14), args := #[Go.Operand.tmp 56, Go.Operand.tmp 58], argTypes := #[23, 24] }, type := 22, pos := "law.go:64", after := #[{ on := 17, ground := Go.Ground.data }, { on := 19, ground := Go.Ground.data }, { on := 15, ground := Go.Ground.chain }, { on := 1, ground := Go.Ground.guard }], guard := some (1, true) }) rfl (fun K hK => ?_) AllReadyH.nil
        go_simp
        refine (of_any tabN tabN_all (some ⟨i13, 0, none⟩) m m _ _ (N16.out.bytes (List.replicate m 0) rfl (by simp)) (by unfold maxLen; omega)).mono ?_
        rintro e W17 ⟨rfl, a17⟩
        have g17 : Grows W W17 := G16.out.trans a17
        have n17 := N16.out.after' a17
        have N17 := Lib.hid n17
        clear n17
        have G17 := Lib.hid g17
        clear a17 g17
        rw [E4.out]
        go_wp2_with (fail)
        refine hK.out _ _ G17.out (fun _ => ?_)
        clear hK K
        try simp only [Act.put, List.setIfInBounds_toArray, List.set_cons_zero, List.set_cons_succ]
        refine wpAnyH_take (i := 21) (oi := { dst := some 60, op := Go.Op.binOp Go.BinOp.xor 22 (Go.Operand.tmp 55) (Go.Operand.tmp 59) 22, type := 22, pos := "law.go:64", after := #[{ on := 16, ground := Go.Ground.data }, { on := 20, ground := Go.Ground.data }, { on := 1, ground := Go.Ground.guard }], guard := some (1, true) }) (v := .int .u32 0) rfl (by kernel_rfl) (by kernel_rfl) (by kernel_rfl) (fun _ _ _ h => h) (Or.inl ⟨by rfl, ?_⟩) G17.out ?_
        · intro w' hSw; clear hSw; go_simp
        try simp only [Act.put, List.setIfInBounds_toArray, List.set_cons_zero, List.set_cons_succ]
        refine wpAnyH_take (i := 22) (oi := { dst := some 61, op := Go.Op.binOp Go.BinOp.eql 22 (Go.Operand.tmp 60) (Go.Operand.const (Go.Value.int Go.IntKind.u32 0)) 22, type := 4, pos := "law.go:64", after := #[{ on := 21, ground := Go.Ground.data }, { on := 1, ground := Go.Ground.guard }], guard := some (1, true) }) (v := .bool true) rfl (by kernel_rfl) (by kernel_rfl) (by kernel_rfl) (fun _ _ _ h => h) (Or.inl ⟨by rfl, ?_⟩) G17.out ?_
        · intro w' hSw; clear hSw; go_simp
        try simp only [Act.put, List.setIfInBounds_toArray, List.set_cons_zero, List.set_cons_succ]
        refine wpAnyH_take (i := 23) (oi := { dst := some 62, op := Go.Op.pick (Go.Operand.tmp 40) (Go.Operand.tmp 61) (Go.Operand.const (Go.Value.bool false)), type := 4, pos := "law.go:64", after := #[{ on := 1, ground := Go.Ground.data }, { on := 22, ground := Go.Ground.data }], guard := none }) (v := .bool true) rfl (by kernel_rfl) (by kernel_rfl) (by kernel_rfl) (fun _ _ _ h => h) (Or.inl ⟨by rfl, ?_⟩) G17.out ?_
        · intro w' hSw; clear hSw; go_simp
        try simp only [Act.put, List.setIfInBounds_toArray, List.set_cons_zero, List.set_cons_succ]
        refine wpAnyH_take (i := 24) (oi := { dst := some 4, op := Go.Op.assign (Go.Operand.tmp 62), type := 4, pos := "law.go:64", after := #[{ on := 23, ground := Go.Ground.data }, { on := 20, ground := Go.Ground.chain }, { on := 0, ground := Go.Ground.phase }, { on := 1, ground := Go.Ground.phase }, { on := 2, ground := Go.Ground.phase }, { on := 3, ground := Go.Ground.phase }, { on := 4, ground := Go.Ground.phase }, { on := 5, ground := Go.Ground.phase }, { on := 6, ground := Go.Ground.phase }, { on := 7, ground := Go.Ground.phase }, { on := 8, ground := Go.Ground.phase }, { on := 9, ground := Go.Ground.phase }, { on := 10, ground := Go.Ground.phase }, { on := 11, ground := Go.Ground.phase }, { on := 12, ground := Go.Ground.phase }, { on := 13, ground := Go.Ground.phase }, { on := 14, ground := Go.Ground.phase }, { on := 15, ground := Go.Ground.phase }, { on := 16, ground := Go.Ground.phase }, { on := 17, ground := Go.Ground.phase }, { on := 18, ground := Go.Ground.phase }, { on := 19, ground := Go.Ground.phase }, { on := 20, ground := Go.Ground.phase }, { on := 21, ground := Go.Ground.phase }, { on := 22, ground := Go.Ground.phase }, { on := 23, ground := Go.Ground.phase }], guard := none }) (v := .bool true) rfl (by kernel_rfl) (by kernel_rfl) (by kernel_rfl) (fun _ _ _ h => h) (Or.inl ⟨by rfl, ?_⟩) G17.out ?_
        · intro w' hSw; clear hSw; go_simp
        try simp only [Act.put, List.setIfInBounds_toArray, List.set_cons_zero, List.set_cons_succ]
        refine wpAnyH_done (by kernel_rfl) ?_ _
        refine NoPanic.normal ?_
        have bz := HBz.out.trans ((G17.out : Below _ _ _).mono HBz.out.size)
        go_wp2_with (fail)
        go_ret
        exact ⟨rfl, bz⟩
      exact AllReadyH.nil
set_option maxRecDepth 100000 in
set_option maxHeartbeats 16000000 in
theorem xor_eq (A : Option Addr) (c : Nat) (xs : List UInt8) (A' : Option Addr) (c' : Nat) (ys : List UInt8) (w : World) (m : Nat)  (_hlt : True) (ha : Came w A m c xs) (hb : Came w A' m c' ys) (h9 : m ≤ 9000) :
    Calls Try.prog 6 #[.slice A m c, .slice A' m c'] w fun e w' => e = .returned (.bool true) ∧ Below w.heap.size w w' := by
  have hz := zeroT
  have hreach := ha.reach
  have hcap := ha.cap
  have hreach' := hb.reach
  have hcap' := hb.cap
  have HA := Lib.hid ha
  have HB := Lib.hid hb
  have hmk := make_run m (by omega)
  have hd9 : decide ((9000 : Int) < (m : Int)) = false := by simp; omega
  clear ha hb
  go_enter Try.func6, Try.ntmps6
  go_wp2_with (fail)
  refine (head_any _).mono ?_
  rintro e w0 ⟨rfl, hb0⟩
  have HB0 := Lib.hid hb0
  clear hb0
  go_wp2_with (fail)
  refine (table_any _).mono ?_
  rintro e w1 ⟨rfl, hb1⟩
  have hb1' := HB0.out.trans (hb1.mono HB0.out.size)
  have HB1 := Lib.hid hb1'
  have hw1 := Whole.made w1 23 (arrV fun _ => 0)
  have Hw1 := Lib.hid hw1
  clear hw1 hb1 hb1' HB0
  have hW : Whole ((w1.alloc (.cells (arrV fun _ => 0) 23)).setRow w1.heap.size (arrV tabN)) w1.heap.size 23 (arrV tabN) := setRow_heap _ _ _ _ _ _ Hw1.out
  have hB : Below w.heap.size w ((w1.alloc (.cells (arrV fun _ => 0) 23)).setRow w1.heap.size (arrV tabN)) := below_setRow (HB1.out.alloc HB1.out.size _) HB1.out.size _
  have HW := Lib.hid hW
  have HBB := Lib.hid hB
  clear hW hB
  go_wp2_with (refine wpList_store_row rfl 23 _ _ rfl w1.heap.size (arrV tabN) rfl rfl 23 _ Hw1.out (by rw [arrV_size]; exact sizeT) (by rw [arrV_size, arrV_size]) (arrV_one _) ?_
               generalize (w1.alloc (.cells (arrV fun _ => 0) 23)).setRow w1.heap.size (arrV tabN) = V at *)
  clear Hw1 HB1
  generalize w1.heap.size = t0 at *
  go_loopw [9] (fun i wr => ∃ j : Nat, j ≤ m ∧ i = .int .i64 j ∧ Whole wr V.heap.size 5 (mixB xs ys m j) ∧ Below V.heap.size V wr) (fun i _ => m - (intOf i).toNat)
  case atStart => exact ⟨0, by omega, rfl, by rw [mixB_zero]; exact Whole.made V _ _, (Below.refl _ _).alloc (Nat.le_refl _) _⟩
  case round =>
    obtain ⟨j, hj, rfl, ho, hbr⟩ := hrel
    have HOR := Lib.hid ho
    have HBR := Lib.hid hbr
    clear ho hbr
    by_cases hlt2 : j < m
    · have ha1 := ((HA.out.bytes.below HBB.out).wider HBB.out.size).below HBR.out
      have hb1 := ((HB.out.bytes.below HBB.out).wider HBB.out.size).below HBR.out
      obtain ⟨ad, hAe, hca⟩ := spot_cell ha1 (show j < m by omega)
      obtain ⟨bd, hBe, hcb⟩ := spot_cell hb1 (show j < m by omega)
      have hcx := HOR.out.cell j
      rw [mixB_get _ _ _ _ _ hlt2] at hcx
      unfold byteV at hcx
      have hfx := HOR.out.free j
      have hnext := fun b => mixB_next xs ys m j hlt2 b
      have HN := Lib.hid hnext
      clear hnext ha1 hb1
      subst hAe hBe
      have hxr := xor_bits (xs.getD j 0) (ys.getD j 0)
      generalize hae : xs.getD j 0 = a at *
      generalize hbe : ys.getD j 0 = b at *
      generalize hye : UInt8.ofNat (a.toNat ^^^ b.toNat) = y at *
      have HAE := Lib.hid hae
      have HBE := Lib.hid hbe
      have HYE := Lib.hid hye
      clear hae hbe hye
      have bj0 : (0 : Int) ≤ (j : Int) := by omega
      have bj1 : (j : Int) < (m : Int) := by omega
      have bj2 : (j : Int) < (m : Int) := by omega
      have bj3 : (j : Int) < (m : Int) := by omega
      go_wp2_with (fail)
      go_region
      go_wp2_with (fail)
      go_roundw
      case rel =>
        refine ⟨j + 1, by omega, by go_num, ?_, (HBR.out.setCell (by simp) _).drew⟩
        have hs := HOR.out.put j (.int .u8 (y.toNat : Nat))
        rw [HN.out y rfl] at hs
        exact hs
      case measure => simp [intOf]; omega
    · have hjm : m = j := by omega
      subst hjm
      have hxw := HOR.out
      rw [mixB_all] at hxw
      have hT := HW.out.after' HBR.out
      have hX : Bytes wr wr.heap.size (some ⟨V.heap.size, 0, none⟩) m (xorB xs ys m) := Held.bytes ⟨_, _, hxw⟩ _ rfl (xorB_length _ _ _)
      have hAm : Bytes wr wr.heap.size A m (xs.take m) := ((((HA.out.bytes.below HBB.out).wider HBB.out.size).below HBR.out).wider HBR.out.size).first (by omega)
      have hBm : Bytes wr wr.heap.size A' m (ys.take m) := ((((HB.out.bytes.below HBB.out).wider HBB.out.size).below HBR.out).wider HBR.out.size).first (by omega)
      have hBz := HBB.out.trans (HBR.out.mono HBB.out.size)
      have h4 := on_four m (xs.take m) (ys.take m) (by rw [List.length_take, HA.out.bytes.len]; omega) (by rw [List.length_take, HB.out.bytes.len]; omega)
      rw [xorB_take] at h4
      have HT := Lib.hid hT
      have HX := Lib.hid hX
      have HAm := Lib.hid hAm
      have HBm := Lib.hid hBm
      have HBz := Lib.hid hBz
      clear hxw hT hX hAm hBm hBz
      have l1 := onN_lt tabN 0 (xorB xs ys m)
      have l2 := onN_lt tabN 0 (xs.take m)
      have l3 := onN_lt tabN 0 (ys.take m)
      have l4 := onN_lt tabN 0 (List.replicate m 0)
      generalize he1 : onN tabN 0 (xorB xs ys m) = y1 at *
      generalize he2 : onN tabN 0 (xs.take m) = y2 at *
      generalize he3 : onN tabN 0 (ys.take m) = y3 at *
      generalize he4 : onN tabN 0 (List.replicate m 0) = y4 at *
      have E1 := Lib.hid he1
      have E2 := Lib.hid he2
      have E3 := Lib.hid he3
      have E4 := Lib.hid he4
      clear he1 he2 he3 he4
      have hz1 := u32_xor_nat y1 y2 l1 l2
      have lz1 : y1 ^^^ y2 < 4294967296 := Nat.xor_lt_two_pow (n := 32) l1 l2
      generalize y1 ^^^ y2 = z1 at *
      have hz2 := u32_xor_nat z1 y3 lz1 l3
      have lz2 : z1 ^^^ y3 < 4294967296 := Nat.xor_lt_two_pow (n := 32) lz1 l3
      generalize z1 ^^^ y3 = z2 at *
      have hz3 := u32_xor_nat z2 y4 lz2 l4
      rw [h4] at hz3
      clear h4 lz1 lz2 l1 l2 l3 l4
      generalize V.heap.size = xb at *
      generalize wr = W at *
      have bj1 : (m : Int) ≤ (c : Int) := by omega
      have bj2 : (m : Int) ≤ (c' : Int) := by omega
      have bj3 : (0 : Int) ≤ (m : Int) := by omega
      go_wp2_with (fail)
      refine wp_region_noPanic ?_
      refine wp_region_held_drew (S := fun w' => Grows W w') (by kernel_rfl) ((Grows.refl W).trans ⟨rfl, rfl, rfl, Nat.le_refl _, fun _ _ => rfl⟩) (fun hHeld => ?_)
      have G0 := Lib.hid hHeld
      clear hHeld
      generalize W.drew = W0 at *
      refine wpAnyH_take (i := 0) (oi := { dst := some 39, op := Go.Op.move (Go.Operand.tmp 5), type := 4, pos := "law.go:64", after := #[], guard := none }) (v := .bool true) rfl (by kernel_rfl) (by kernel_rfl) (by kernel_rfl) (fun _ _ _ h => h) (Or.inl ⟨by rfl, ?_⟩) G0.out ?_
      · intro w' hSw; clear hSw; go_simp
      try simp only [Act.put, List.setIfInBounds_toArray, List.set_cons_zero, List.set_cons_succ]
      refine wpAnyH_take (i := 1) (oi := { dst := some 40, op := Go.Op.move (Go.Operand.tmp 39), type := 4, pos := "law.go:64", after := #[{ on := 0, ground := Go.Ground.data }], guard := none }) (v := .bool true) rfl (by kernel_rfl) (by kernel_rfl) (by kernel_rfl) (fun _ _ _ h => h) (Or.inl ⟨by rfl, ?_⟩) G0.out ?_
      · intro w' hSw; clear hSw; go_simp
      try simp only [Act.put, List.setIfInBounds_toArray, List.set_cons_zero, List.set_cons_succ]
      refine wpAnyH_take (i := 2) (oi := { dst := some 41, op := Go.Op.load 23 (Go.Operand.tmp 7), type := 23, pos := "law.go:64", after := #[{ on := 1, ground := Go.Ground.guard }], guard := some (1, true) }) (v := .agg (arrV tabN)) rfl (by kernel_rfl) (by kernel_rfl) (by kernel_rfl) (fun _ _ _ h => h) (take_whole (by rfl) 23 _ rfl t0 rfl 23 (arrV tabN) _ (fun _ h => Grows.whole h HT.out) Try.underlying23 rfl (by rw [arrV_size]; exact sizeT)) G0.out ?_
      try simp only [Act.put, List.setIfInBounds_toArray, List.set_cons_zero, List.set_cons_succ]
      refine wpAnyH_take (i := 3) (oi := { dst := some 42, op := Go.Op.move (Go.Operand.tmp 8), type := 24, pos := "law.go:64", after := #[{ on := 1, ground := Go.Ground.guard }], guard := some (1, true) }) (v := .slice (some ⟨xb, 0, none⟩) m m) rfl (by kernel_rfl) (by kernel_rfl) (by kernel_rfl) (fun _ _ _ h => h) (Or.inl ⟨by rfl, ?_⟩) G0.out ?_
      · intro w' hSw; clear hSw; go_simp
      try simp only [Act.put, List.setIfInBounds_toArray, List.set_cons_zero, List.set_cons_succ]
      refine wpAnyH_take (i := 5) (oi := { dst := some 44, op := Go.Op.load 23 (Go.Operand.tmp 7), type := 23, pos := "law.go:64", after := #[{ on := 1, ground := Go.Ground.guard }], guard := some (1, true) }) (v := .agg (arrV tabN)) rfl (by kernel_rfl) (by kernel_rfl) (by kernel_rfl) (fun _ _ _ h => h) (take_whole (by rfl) 23 _ rfl t0 rfl 23 (arrV tabN) _ (fun _ h => Grows.whole h HT.out) Try.underlying23 rfl (by rw [arrV_size]; exact sizeT)) G0.out ?_
      try simp only [Act.put, List.setIfInBounds_toArray, List.set_cons_zero, List.set_cons_succ]
      refine wpAnyH_take (i := 6) (oi := { dst := some 45, op := Go.Op.move (Go.Operand.tmp 0), type := 24, pos := "law.go:64", after := #[{ on := 1, ground := Go.Ground.guard }], guard := some (1, true) }) (v := .slice A m c) rfl (by kernel_rfl) (by kernel_rfl) (by kernel_rfl) (fun _ _ _ h => h) (Or.inl ⟨by rfl, ?_⟩) G0.out ?_
      · intro w' hSw; clear hSw; go_simp
      try simp only [Act.put, List.setIfInBounds_toArray, List.set_cons_zero, List.set_cons_succ]
      refine wpAnyH_take (i := 7) (oi := { dst := some 46, op := Go.Op.move (Go.Operand.tmp 6), type := 3, pos := "law.go:64", after := #[{ on := 1, ground := Go.Ground.guard }], guard := some (1, true) }) (v := .int .i64 (m : Nat)) rfl (by kernel_rfl) (by kernel_rfl) (by kernel_rfl) (fun _ _ _ h => h) (Or.inl ⟨by rfl, ?_⟩) G0.out ?_
      · intro w' hSw; clear hSw; go_simp
      try simp only [Act.put, List.setIfInBounds_toArray, List.set_cons_zero, List.set_cons_succ]
      refine wpAnyH_take (i := 8) (oi := { dst := some 47, op := Go.Op.slice 24 (Go.Operand.tmp 45) none (some (Go.Operand.tmp 46)) none, type := 24, pos := "law.go:64", after := #[{ on := 6, ground := Go.Ground.data }, { on := 7, ground := Go.Ground.data }, { on := 1, ground := Go.Ground.guard }], guard := some (1, true) }) (v := .slice A m c) rfl (by kernel_rfl) (by kernel_rfl) (by kernel_rfl) (fun _ _ _ h => h) (Or.inl ⟨by rfl, ?_⟩) G0.out ?_
      · intro w' hSw; clear hSw; go_simp
      try simp only [Act.put, List.setIfInBounds_toArray, List.set_cons_zero, List.set_cons_succ]
      refine wpAnyH_take (i := 11) (oi := { dst := some 50, op := Go.Op.load 23 (Go.Operand.tmp 7), type := 23, pos := "law.go:64", after := #[{ on := 1, ground := Go.Ground.guard }], guard := some (1, true) }) (v := .agg (arrV tabN)) rfl (by kernel_rfl) (by kernel_rfl) (by kernel_rfl) (fun _ _ _ h => h) (take_whole (by rfl) 23 _ rfl t0 rfl 23 (arrV tabN) _ (fun _ h => Grows.whole h HT.out) Try.underlying23 rfl (by rw [arrV_size]; exact sizeT)) G0.out ?_
      try simp only [Act.put, List.setIfInBounds_toArray, List.set_cons_zero, List.set_cons_succ]
      refine wpAnyH_take (i := 12) (oi := { dst := some 51, op := Go.Op.move (Go.Operand.tmp 1), type := 24, pos := "law.go:64", after := #[{ on := 1, ground := Go.Ground.guard }], guard := some (1, true) }) (v := .slice A' m c') rfl (by kernel_rfl) (by kernel_rfl) (by kernel_rfl) (fun _ _ _ h => h) (Or.inl ⟨by rfl, ?_⟩) G0.out ?_
      · intro w' hSw; clear hSw; go_simp
      try simp only [Act.put, List.setIfInBounds_toArray, List.set_cons_zero, List.set_cons_succ]
      refine wpAnyH_take (i := 13) (oi := { dst := some 52, op := Go.Op.move (Go.Operand.tmp 6), type := 3, pos := "law.go:64", after := #[{ on := 1, ground := Go.Ground.guard }], guard := some (1, true) }) (v := .int .i64 (m : Nat)) rfl (by kernel_rfl) (by kernel_rfl) (by kernel_rfl) (fun _ _ _ h => h) (Or.inl ⟨by rfl, ?_⟩) G0.out ?_
      · intro w' hSw; clear hSw; go_simp
      try simp only [Act.put, List.setIfInBounds_toArray, List.set_cons_zero, List.set_cons_succ]
      refine wpAnyH_take (i := 14) (oi := { dst := some 53, op := Go.Op.slice 24 (Go.Operand.tmp 51) none (some (Go.Operand.tmp 52)) none, type := 24, pos := "law.go:64", after := #[{ on := 12, ground := Go.Ground.data }, { on := 13, ground := Go.Ground.data }, { on := 1, ground := Go.Ground.guard }], guard := some (1, true) }) (v := .slice A' m c') rfl (by kernel_rfl) (by kernel_rfl) (by kernel_rfl) (fun _ _ _ h => h) (Or.inl ⟨by rfl, ?_⟩) G0.out ?_
      · intro w' hSw; clear hSw; go_simp
      try simp only [Act.put, List.setIfInBounds_toArray, List.set_cons_zero, List.set_cons_succ]
      refine wpAnyH_take (i := 17) (oi := { dst := some 56, op := Go.Op.load 23 (Go.Operand.tmp 7), type := 23, pos := "law.go:64", after := #[{ on := 1, ground := Go.Ground.guard }], guard := some (1, true) }) (v := .agg (arrV tabN)) rfl (by kernel_rfl) (by kernel_rfl) (by kernel_rfl) (fun _ _ _ h => h) (take_whole (by rfl) 23 _ rfl t0 rfl 23 (arrV tabN) _ (fun _ h => Grows.whole h HT.out) Try.underlying23 rfl (by rw [arrV_size]; exact sizeT)) G0.out ?_
      try simp only [Act.put, List.setIfInBounds_toArray, List.set_cons_zero, List.set_cons_succ]
      refine wpAnyH_take (i := 18) (oi := { dst := some 57, op := Go.Op.move (Go.Operand.tmp 6), type := 3, pos := "law.go:64", after := #[{ on := 1, ground := Go.Ground.guard }], guard := some (1, true) }) (v := .int .i64 (m : Nat)) rfl (by kernel_rfl) (by kernel_rfl) (by kernel_rfl) (fun _ _ _ h => h) (Or.inl ⟨by rfl, ?_⟩) G0.out ?_
      · intro w' hSw; clear hSw; go_simp
      try simp only [Act.put, List.setIfInBounds_toArray, List.set_cons_zero, List.set_cons_succ]
      refine wpAnyH_ready (rs := [4, 19]) (by kernel_rfl) (by simp) ?_
      refine AllReadyH.cons (o := { dst := some 43, op := Go.Op.call { callee := Go.Callee.value (Go.Operand.func 14), args := #[Go.Operand.tmp 41, Go.Operand.tmp 42], argTypes := #[23, 24] }, type := 22, pos := "law.go:64", after := #[{ on := 2, ground := Go.Ground.data }, { on := 3, ground := Go.Ground.data }, { on := 1, ground := Go.Ground.chain }, { on := 1, ground := Go.Ground.guard }], guard := some (1, true) }) rfl (fun K hK => ?_) ?_
      · skip
        go_simp
        refine (of_any tabN tabN_all (some ⟨xb, 0, none⟩) m m _ _ (Grows.bytes G0.out HX.out) (by unfold maxLen; omega)).mono ?_
        rintro e W18 ⟨rfl, a18⟩
        have g18 : Grows W W18 := G0.out.trans a18
        have G18 := Lib.hid g18
        clear a18 g18
        rw [E1.out]
        go_wp2_with (fail)
        refine hK.out _ _ G18.out (fun _ => ?_)
        clear hK K
        try simp only [Act.put, List.setIfInBounds_toArray, List.set_cons_zero, List.set_cons_succ]
        refine wpAnyH_ready (rs := [9, 19]) (by kernel_rfl) (by simp) ?_
        refine AllReadyH.cons (o := { dst := some 48, op := Go.Op.call { callee := Go.Callee.value (Go.Operand.func 14), args := #[Go.Operand.tmp 44, Go.Operand.tmp 47], argTypes := #[23, 24] }, type := 22, pos := "law.go:64", after := #[{ on := 5, ground := Go.Ground.data }, { on := 8, ground := Go.Ground.data }, { on := 4, ground := Go.Ground.chain }, { on := 1, ground := Go.Ground.guard }], guard := some (1, true) }) rfl (fun K hK => ?_) ?_
        · skip
          go_simp
          refine (of_any tabN tabN_all A m c _ _ (Grows.bytes G18.out HAm.out) (by unfold maxLen; omega)).mono ?_
          rintro e W19 ⟨rfl, a19⟩
          have g19 : Grows W W19 := G18.out.trans a19
          have G19 := Lib.hid g19
          clear a19 g19
          rw [E2.out]
          go_wp2_with (fail)
          refine hK.out _ _ G19.out (fun _ => ?_)
          clear hK K
          try simp only [Act.put, List.setIfInBounds_toArray, List.set_cons_zero, List.set_cons_succ]
          refine wpAnyH_take (i := 10) (oi := { dst := some 49, op := Go.Op.binOp Go.BinOp.xor 22 (Go.Operand.tmp 43) (Go.Operand.tmp 48) 22, type := 22, pos := "law.go:64", after := #[{ on := 4, ground := Go.Ground.data }, { on := 9, ground := Go.Ground.data }, { on := 1, ground := Go.Ground.guard }], guard := some (1, true) }) (v := .int .u32 (z1 : Nat)) rfl (by kernel_rfl) (by kernel_rfl) (by kernel_rfl) (fun _ _ _ h => h) (Or.inl ⟨by rfl, ?_⟩) G19.out ?_
          · intro w' hSw; clear hSw; go_simp
          try simp only [Act.put, List.setIfInBounds_toArray, List.set_cons_zero, List.set_cons_succ]
          refine wpAnyH_ready (rs := [15, 19]) (by kernel_rfl) (by simp) ?_
          refine AllReadyH.cons (o := { dst := some 54, op := Go.Op.call { callee := Go.Callee.value (Go.Operand.func 14), args := #[Go.Operand.tmp 50, Go.Operand.tmp 53], argTypes := #[23, 24] }, type := 22, pos := "law.go:64", after := #[{ on := 11, ground := Go.Ground.data }, { on := 14, ground := Go.Ground.data }, { on := 9, ground := Go.Ground.chain }, { on := 1, ground := Go.Ground.guard }], guard := some (1, true) }) rfl (fun K hK => ?_) ?_
          · skip
            go_simp
            refine (of_any tabN tabN_all A' m c' _ _ (Grows.bytes G19.out HBm.out) (by unfold maxLen; omega)).mono ?_
            rintro e W20 ⟨rfl, a20⟩
            have g20 : Grows W W20 := G19.out.trans a20
            have G20 := Lib.hid g20
            clear a20 g20
            rw [E3.out]
            go_wp2_with (fail)
            refine hK.out _ _ G20.out (fun _ => ?_)
            clear hK K
            try simp only [Act.put, List.setIfInBounds_toArray, List.set_cons_zero, List.set_cons_succ]
            refine wpAnyH_take (i := 16) (oi := { dst := some 55, op := Go.Op.binOp Go.BinOp.xor 22 (Go.Operand.tmp 49) (Go.Operand.tmp 54) 22, type := 22, pos := "law.go:64", after := #[{ on := 10, ground := Go.Ground.data }, { on := 15, ground := Go.Ground.data }, { on := 1, ground := Go.Ground.guard }], guard := some (1, true) }) (v := .int .u32 (z2 : Nat)) rfl (by kernel_rfl) (by kernel_rfl) (by kernel_rfl) (fun _ _ _ h => h) (Or.inl ⟨by rfl, ?_⟩) G20.out ?_
            · intro w' hSw; clear hSw; go_simp
            try simp only [Act.put, List.setIfInBounds_toArray, List.set_cons_zero, List.set_cons_succ]
            refine wpAnyH_ready (rs := [19]) (by kernel_rfl) (by simp) ?_
            refine AllReadyH.cons (o := { dst := some 58, op := Go.Op.makeSlice 24 (Go.Operand.tmp 57) (Go.Operand.tmp 57), type := 24, pos := "law.go:64", after := #[{ on := 18, ground := Go.Ground.data }, { on := 18, ground := Go.Ground.data }, { on := 1, ground := Go.Ground.guard }], guard := some (1, true) }) rfl (fun K hK => ?_) AllReadyH.nil
            go_simp
            have n21 : Held (W20.alloc (.cells (zeroB m) 5)) W20.heap.size (zeroB m) := ⟨_, _, Whole.made W20 _ _⟩
            have g21 : Grows W (W20.alloc (.cells (zeroB m) 5)) := G20.out.trans ((Below.refl _ _).alloc (Nat.le_refl _) _)
            refine hK.out _ _ g21 (fun _ => ?_)
            clear hK K
            try simp only [Act.put, List.setIfInBounds_toArray, List.set_cons_zero, List.set_cons_succ]
            generalize W20.alloc (.cells (zeroB m) 5) = W21 at *
            generalize W20.heap.size = i21 at *
            have N21 := Lib.hid n21
            have G21 := Lib.hid g21
            clear n21 g21
            refine wpAnyH_ready (rs := [20]) (by kernel_rfl) (by simp) ?_
            refine AllReadyH.cons (o := { dst := some 59, op := Go.Op.call { callee := Go.Callee.value (Go.Operand.func 14), args := #[Go.Operand.tmp 56, Go.Operand.tmp 58], argTypes := #[23, 24] }, type := 22, pos := "law.go:64", after := #[{ on := 17, ground := Go.Ground.data }, { on := 19, ground := Go.Ground.data }, { on := 15, ground := Go.Ground.chain }, { on := 1, ground := Go.Ground.guard }], guard := some (1, true) }) rfl (fun K hK => ?_) AllReadyH.nil
            go_simp
            refine (of_any tabN tabN_all (some ⟨i21, 0, none⟩) m m _ _ (N21.out.bytes (List.replicate m 0) rfl (by simp)) (by unfold maxLen; omega)).mono ?_
            rintro e W22 ⟨rfl, a22⟩
            have g22 : Grows W W22 := G21.out.trans a22
            have n22 := N21.out.after' a22
            have N22 := Lib.hid n22
            clear n22
            have G22 := Lib.hid g22
            clear a22 g22
            rw [E4.out]
            go_wp2_with (fail)
            refine hK.out _ _ G22.out (fun _ => ?_)
            clear hK K
            try simp only [Act.put, List.setIfInBounds_toArray, List.set_cons_zero, List.set_cons_succ]
            refine wpAnyH_take (i := 21) (oi := { dst := some 60, op := Go.Op.binOp Go.BinOp.xor 22 (Go.Operand.tmp 55) (Go.Operand.tmp 59) 22, type := 22, pos := "law.go:64", after := #[{ on := 16, ground := Go.Ground.data }, { on := 20, ground := Go.Ground.data }, { on := 1, ground := Go.Ground.guard }], guard := some (1, true) }) (v := .int .u32 0) rfl (by kernel_rfl) (by kernel_rfl) (by kernel_rfl) (fun _ _ _ h => h) (Or.inl ⟨by rfl, ?_⟩) G22.out ?_
            · intro w' hSw; clear hSw; go_simp
            try simp only [Act.put, List.setIfInBounds_toArray, List.set_cons_zero, List.set_cons_succ]
            refine wpAnyH_take (i := 22) (oi := { dst := some 61, op := Go.Op.binOp Go.BinOp.eql 22 (Go.Operand.tmp 60) (Go.Operand.const (Go.Value.int Go.IntKind.u32 0)) 22, type := 4, pos := "law.go:64", after := #[{ on := 21, ground := Go.Ground.data }, { on := 1, ground := Go.Ground.guard }], guard := some (1, true) }) (v := .bool true) rfl (by kernel_rfl) (by kernel_rfl) (by kernel_rfl) (fun _ _ _ h => h) (Or.inl ⟨by rfl, ?_⟩) G22.out ?_
            · intro w' hSw; clear hSw; go_simp
            try simp only [Act.put, List.setIfInBounds_toArray, List.set_cons_zero, List.set_cons_succ]
            refine wpAnyH_take (i := 23) (oi := { dst := some 62, op := Go.Op.pick (Go.Operand.tmp 40) (Go.Operand.tmp 61) (Go.Operand.const (Go.Value.bool false)), type := 4, pos := "law.go:64", after := #[{ on := 1, ground := Go.Ground.data }, { on := 22, ground := Go.Ground.data }], guard := none }) (v := .bool true) rfl (by kernel_rfl) (by kernel_rfl) (by kernel_rfl) (fun _ _ _ h => h) (Or.inl ⟨by rfl, ?_⟩) G22.out ?_
            · intro w' hSw; clear hSw; go_simp
            try simp only [Act.put, List.setIfInBounds_toArray, List.set_cons_zero, List.set_cons_succ]
            refine wpAnyH_take (i := 24) (oi := { dst := some 4, op := Go.Op.assign (Go.Operand.tmp 62), type := 4, pos := "law.go:64", after := #[{ on := 23, ground := Go.Ground.data }, { on := 20, ground := Go.Ground.chain }, { on := 0, ground := Go.Ground.phase }, { on := 1, ground := Go.Ground.phase }, { on := 2, ground := Go.Ground.phase }, { on := 3, ground := Go.Ground.phase }, { on := 4, ground := Go.Ground.phase }, { on := 5, ground := Go.Ground.phase }, { on := 6, ground := Go.Ground.phase }, { on := 7, ground := Go.Ground.phase }, { on := 8, ground := Go.Ground.phase }, { on := 9, ground := Go.Ground.phase }, { on := 10, ground := Go.Ground.phase }, { on := 11, ground := Go.Ground.phase }, { on := 12, ground := Go.Ground.phase }, { on := 13, ground := Go.Ground.phase }, { on := 14, ground := Go.Ground.phase }, { on := 15, ground := Go.Ground.phase }, { on := 16, ground := Go.Ground.phase }, { on := 17, ground := Go.Ground.phase }, { on := 18, ground := Go.Ground.phase }, { on := 19, ground := Go.Ground.phase }, { on := 20, ground := Go.Ground.phase }, { on := 21, ground := Go.Ground.phase }, { on := 22, ground := Go.Ground.phase }, { on := 23, ground := Go.Ground.phase }], guard := none }) (v := .bool true) rfl (by kernel_rfl) (by kernel_rfl) (by kernel_rfl) (fun _ _ _ h => h) (Or.inl ⟨by rfl, ?_⟩) G22.out ?_
            · intro w' hSw; clear hSw; go_simp
            try simp only [Act.put, List.setIfInBounds_toArray, List.set_cons_zero, List.set_cons_succ]
            refine wpAnyH_done (by kernel_rfl) ?_ _
            refine NoPanic.normal ?_
            have bz := HBz.out.trans ((G22.out : Below _ _ _).mono HBz.out.size)
            go_wp2_with (fail)
            go_ret
            exact ⟨rfl, bz⟩
          refine AllReadyH.cons (o := { dst := some 58, op := Go.Op.makeSlice 24 (Go.Operand.tmp 57) (Go.Operand.tmp 57), type := 24, pos := "law.go:64", after := #[{ on := 18, ground := Go.Ground.data }, { on := 18, ground := Go.Ground.data }, { on := 1, ground := Go.Ground.guard }], guard := some (1, true) }) rfl (fun K hK => ?_) ?_
          · skip
            go_simp
            have n23 : Held (W19.alloc (.cells (zeroB m) 5)) W19.heap.size (zeroB m) := ⟨_, _, Whole.made W19 _ _⟩
            have g23 : Grows W (W19.alloc (.cells (zeroB m) 5)) := G19.out.trans ((Below.refl _ _).alloc (Nat.le_refl _) _)
            refine hK.out _ _ g23 (fun _ => ?_)
            clear hK K
            try simp only [Act.put, List.setIfInBounds_toArray, List.set_cons_zero, List.set_cons_succ]
            generalize W19.alloc (.cells (zeroB m) 5) = W23 at *
            generalize W19.heap.size = i23 at *
            have N23 := Lib.hid n23
            have G23 := Lib.hid g23
            clear n23 g23
            refine wpAnyH_ready (rs := [15]) (by kernel_rfl) (by simp) ?_
            refine AllReadyH.cons (o := { dst := some 54, op := Go.Op.call { callee := Go.Callee.value (Go.Operand.func 14), args := #[Go.Operand.tmp 50, Go.Operand.tmp 53], argTypes := #[23, 24] }, type := 22, pos := "law.go:64", after := #[{ on := 11, ground := Go.Ground.data }, { on := 14, ground := Go.Ground.data }, { on := 9, ground := Go.Ground.chain }, { on := 1, ground := Go.Ground.guard }], guard := some (1, true) }) rfl (fun K hK => ?_) AllReadyH.nil
            go_simp
            refine (of_any tabN tabN_all A' m c' _ _ (Grows.bytes G23.out HBm.out) (by unfold maxLen; omega)).mono ?_
            rintro e W24 ⟨rfl, a24⟩
            have g24 : Grows W W24 := G23.out.trans a24
            have n24 := N23.out.after' a24
            have N24 := Lib.hid n24
            clear n24
            have G24 := Lib.hid g24
            clear a24 g24
            rw [E3.out]
            go_wp2_with (fail)
            refine hK.out _ _ G24.out (fun _ => ?_)
            clear hK K
            try simp only [Act.put, List.setIfInBounds_toArray, List.set_cons_zero, List.set_cons_succ]
            refine wpAnyH_take (i := 16) (oi := { dst := some 55, op := Go.Op.binOp Go.BinOp.xor 22 (Go.Operand.tmp 49) (Go.Operand.tmp 54) 22, type := 22, pos := "law.go:64", after := #[{ on := 10, ground := Go.Ground.data }, { on := 15, ground := Go.Ground.data }, { on := 1, ground := Go.Ground.guard }], guard := some (1, true) }) (v := .int .u32 (z2 : Nat)) rfl (by kernel_rfl) (by kernel_rfl) (by kernel_rfl) (fun _ _ _ h => h) (Or.inl ⟨by rfl, ?_⟩) G24.out ?_
            · intro w' hSw; clear hSw; go_simp
            try simp only [Act.put, List.setIfInBounds_toArray, List.set_cons_zero, List.set_cons_succ]
            refine wpAnyH_ready (rs := [20]) (by kernel_rfl) (by simp) ?_
            refine AllReadyH.cons (o := { dst := some 59, op := Go.Op.call { callee := Go.Callee.value (Go.Operand.func 14), args := #[Go.Operand.tmp 56, Go.Operand.tmp 58], argTypes := #[23, 24] }, type := 22, pos := "law.go:64", after := #[{ on := 17, ground := Go.Ground.data }, { on := 19, ground := Go.Ground.data }, { on := 15, ground := Go.Ground.chain }, { on := 1, ground := Go.Ground.guard }], guard := some (1, true) }) rfl (fun K hK => ?_) AllReadyH.nil
            go_simp
            refine (of_any tabN tabN_all (some ⟨i23, 0, none⟩) m m _ _ (N24.out.bytes (List.replicate m 0) rfl (by simp)) (by unfold maxLen; omega)).mono ?_
            rintro e W25 ⟨rfl, a25⟩
            have g25 : Grows W W25 := G24.out.trans a25
            have n25 := N24.out.after' a25
            have N25 := Lib.hid n25
            clear n25
            have G25 := Lib.hid g25
            clear a25 g25
            rw [E4.out]
            go_wp2_with (fail)
            refine hK.out _ _ G25.out (fun _ => ?_)
            clear hK K
            try simp only [Act.put, List.setIfInBounds_toArray, List.set_cons_zero, List.set_cons_succ]
            refine wpAnyH_take (i := 21) (oi := { dst := some 60, op := Go.Op.binOp Go.BinOp.xor 22 (Go.Operand.tmp 55) (Go.Operand.tmp 59) 22, type := 22, pos := "law.go:64", after := #[{ on := 16, ground := Go.Ground.data }, { on := 20, ground := Go.Ground.data }, { on := 1, ground := Go.Ground.guard }], guard := some (1, true) }) (v := .int .u32 0) rfl (by kernel_rfl) (by kernel_rfl) (by kernel_rfl) (fun _ _ _ h => h) (Or.inl ⟨by rfl, ?_⟩) G25.out ?_
            · intro w' hSw; clear hSw; go_simp
            try simp only [Act.put, List.setIfInBounds_toArray, List.set_cons_zero, List.set_cons_succ]
            refine wpAnyH_take (i := 22) (oi := { dst := some 61, op := Go.Op.binOp Go.BinOp.eql 22 (Go.Operand.tmp 60) (Go.Operand.const (Go.Value.int Go.IntKind.u32 0)) 22, type := 4, pos := "law.go:64", after := #[{ on := 21, ground := Go.Ground.data }, { on := 1, ground := Go.Ground.guard }], guard := some (1, true) }) (v := .bool true) rfl (by kernel_rfl) (by kernel_rfl) (by kernel_rfl) (fun _ _ _ h => h) (Or.inl ⟨by rfl, ?_⟩) G25.out ?_
            · intro w' hSw; clear hSw; go_simp
            try simp only [Act.put, List.setIfInBounds_toArray, List.set_cons_zero, List.set_cons_succ]
            refine wpAnyH_take (i := 23) (oi := { dst := some 62, op := Go.Op.pick (Go.Operand.tmp 40) (Go.Operand.tmp 61) (Go.Operand.const (Go.Value.bool false)), type := 4, pos := "law.go:64", after := #[{ on := 1, ground := Go.Ground.data }, { on := 22, ground := Go.Ground.data }], guard := none }) (v := .bool true) rfl (by kernel_rfl) (by kernel_rfl) (by kernel_rfl) (fun _ _ _ h => h) (Or.inl ⟨by rfl, ?_⟩) G25.out ?_
            · intro w' hSw; clear hSw; go_simp
            try simp only [Act.put, List.setIfInBounds_toArray, List.set_cons_zero, List.set_cons_succ]
            refine wpAnyH_take (i := 24) (oi := { dst := some 4, op := Go.Op.assign (Go.Operand.tmp 62), type := 4, pos := "law.go:64", after := #[{ on := 23, ground := Go.Ground.data }, { on := 20, ground := Go.Ground.chain }, { on := 0, ground := Go.Ground.phase }, { on := 1, ground := Go.Ground.phase }, { on := 2, ground := Go.Ground.phase }, { on := 3, ground := Go.Ground.phase }, { on := 4, ground := Go.Ground.phase }, { on := 5, ground := Go.Ground.phase }, { on := 6, ground := Go.Ground.phase }, { on := 7, ground := Go.Ground.phase }, { on := 8, ground := Go.Ground.phase }, { on := 9, ground := Go.Ground.phase }, { on := 10, ground := Go.Ground.phase }, { on := 11, ground := Go.Ground.phase }, { on := 12, ground := Go.Ground.phase }, { on := 13, ground := Go.Ground.phase }, { on := 14, ground := Go.Ground.phase }, { on := 15, ground := Go.Ground.phase }, { on := 16, ground := Go.Ground.phase }, { on := 17, ground := Go.Ground.phase }, { on := 18, ground := Go.Ground.phase }, { on := 19, ground := Go.Ground.phase }, { on := 20, ground := Go.Ground.phase }, { on := 21, ground := Go.Ground.phase }, { on := 22, ground := Go.Ground.phase }, { on := 23, ground := Go.Ground.phase }], guard := none }) (v := .bool true) rfl (by kernel_rfl) (by kernel_rfl) (by kernel_rfl) (fun _ _ _ h => h) (Or.inl ⟨by rfl, ?_⟩) G25.out ?_
            · intro w' hSw; clear hSw; go_simp
            try simp only [Act.put, List.setIfInBounds_toArray, List.set_cons_zero, List.set_cons_succ]
            refine wpAnyH_done (by kernel_rfl) ?_ _
            refine NoPanic.normal ?_
            have bz := HBz.out.trans ((G25.out : Below _ _ _).mono HBz.out.size)
            go_wp2_with (fail)
            go_ret
            exact ⟨rfl, bz⟩
          exact AllReadyH.nil
        refine AllReadyH.cons (o := { dst := some 58, op := Go.Op.makeSlice 24 (Go.Operand.tmp 57) (Go.Operand.tmp 57), type := 24, pos := "law.go:64", after := #[{ on := 18, ground := Go.Ground.data }, { on := 18, ground := Go.Ground.data }, { on := 1, ground := Go.Ground.guard }], guard := some (1, true) }) rfl (fun K hK => ?_) ?_
        · skip
          go_simp
          have n26 : Held (W18.alloc (.cells (zeroB m) 5)) W18.heap.size (zeroB m) := ⟨_, _, Whole.made W18 _ _⟩
          have g26 : Grows W (W18.alloc (.cells (zeroB m) 5)) := G18.out.trans ((Below.refl _ _).alloc (Nat.le_refl _) _)
          refine hK.out _ _ g26 (fun _ => ?_)
          clear hK K
          try simp only [Act.put, List.setIfInBounds_toArray, List.set_cons_zero, List.set_cons_succ]
          generalize W18.alloc (.cells (zeroB m) 5) = W26 at *
          generalize W18.heap.size = i26 at *
          have N26 := Lib.hid n26
          have G26 := Lib.hid g26
          clear n26 g26
          refine wpAnyH_ready (rs := [9]) (by kernel_rfl) (by simp) ?_
          refine AllReadyH.cons (o := { dst := some 48, op := Go.Op.call { callee := Go.Callee.value (Go.Operand.func 14), args := #[Go.Operand.tmp 44, Go.Operand.tmp 47], argTypes := #[23, 24] }, type := 22, pos := "law.go:64", after := #[{ on := 5, ground := Go.Ground.data }, { on := 8, ground := Go.Ground.data }, { on := 4, ground := Go.Ground.chain }, { on := 1, ground := Go.Ground.guard }], guard := some (1, true) }) rfl (fun K hK => ?_) AllReadyH.nil
          go_simp
          refine (of_any tabN tabN_all A m c _ _ (Grows.bytes G26.out HAm.out) (by unfold maxLen; omega)).mono ?_
          rintro e W27 ⟨rfl, a27⟩
          have g27 : Grows W W27 := G26.out.trans a27
          have n27 := N26.out.after' a27
          have N27 := Lib.hid n27
          clear n27
          have G27 := Lib.hid g27
          clear a27 g27
          rw [E2.out]
          go_wp2_with (fail)
          refine hK.out _ _ G27.out (fun _ => ?_)
          clear hK K
          try simp only [Act.put, List.setIfInBounds_toArray, List.set_cons_zero, List.set_cons_succ]
          refine wpAnyH_take (i := 10) (oi := { dst := some 49, op := Go.Op.binOp Go.BinOp.xor 22 (Go.Operand.tmp 43) (Go.Operand.tmp 48) 22, type := 22, pos := "law.go:64", after := #[{ on := 4, ground := Go.Ground.data }, { on := 9, ground := Go.Ground.data }, { on := 1, ground := Go.Ground.guard }], guard := some (1, true) }) (v := .int .u32 (z1 : Nat)) rfl (by kernel_rfl) (by kernel_rfl) (by kernel_rfl) (fun _ _ _ h => h) (Or.inl ⟨by rfl, ?_⟩) G27.out ?_
          · intro w' hSw; clear hSw; go_simp
          try simp only [Act.put, List.setIfInBounds_toArray, List.set_cons_zero, List.set_cons_succ]
          refine wpAnyH_ready (rs := [15]) (by kernel_rfl) (by simp) ?_
          refine AllReadyH.cons (o := { dst := some 54, op := Go.Op.call { callee := Go.Callee.value (Go.Operand.func 14), args := #[Go.Operand.tmp 50, Go.Operand.tmp 53], argTypes := #[23, 24] }, type := 22, pos := "law.go:64", after := #[{ on := 11, ground := Go.Ground.data }, { on := 14, ground := Go.Ground.data }, { on := 9, ground := Go.Ground.chain }, { on := 1, ground := Go.Ground.guard }], guard := some (1, true) }) rfl (fun K hK => ?_) AllReadyH.nil
          go_simp
          refine (of_any tabN tabN_all A' m c' _ _ (Grows.bytes G27.out HBm.out) (by unfold maxLen; omega)).mono ?_
          rintro e W28 ⟨rfl, a28⟩
          have g28 : Grows W W28 := G27.out.trans a28
          have n28 := N27.out.after' a28
          have N28 := Lib.hid n28
          clear n28
          have G28 := Lib.hid g28
          clear a28 g28
          rw [E3.out]
          go_wp2_with (fail)
          refine hK.out _ _ G28.out (fun _ => ?_)
          clear hK K
          try simp only [Act.put, List.setIfInBounds_toArray, List.set_cons_zero, List.set_cons_succ]
          refine wpAnyH_take (i := 16) (oi := { dst := some 55, op := Go.Op.binOp Go.BinOp.xor 22 (Go.Operand.tmp 49) (Go.Operand.tmp 54) 22, type := 22, pos := "law.go:64", after := #[{ on := 10, ground := Go.Ground.data }, { on := 15, ground := Go.Ground.data }, { on := 1, ground := Go.Ground.guard }], guard := some (1, true) }) (v := .int .u32 (z2 : Nat)) rfl (by kernel_rfl) (by kernel_rfl) (by kernel_rfl) (fun _ _ _ h => h) (Or.inl ⟨by rfl, ?_⟩) G28.out ?_
          · intro w' hSw; clear hSw; go_simp
          try simp only [Act.put, List.setIfInBounds_toArray, List.set_cons_zero, List.set_cons_succ]
          refine wpAnyH_ready (rs := [20]) (by kernel_rfl) (by simp) ?_
          refine AllReadyH.cons (o := { dst := some 59, op := Go.Op.call { callee := Go.Callee.value (Go.Operand.func 14), args := #[Go.Operand.tmp 56, Go.Operand.tmp 58], argTypes := #[23, 24] }, type := 22, pos := "law.go:64", after := #[{ on := 17, ground := Go.Ground.data }, { on := 19, ground := Go.Ground.data }, { on := 15, ground := Go.Ground.chain }, { on := 1, ground := Go.Ground.guard }], guard := some (1, true) }) rfl (fun K hK => ?_) AllReadyH.nil
          go_simp
          refine (of_any tabN tabN_all (some ⟨i26, 0, none⟩) m m _ _ (N28.out.bytes (List.replicate m 0) rfl (by simp)) (by unfold maxLen; omega)).mono ?_
          rintro e W29 ⟨rfl, a29⟩
          have g29 : Grows W W29 := G28.out.trans a29
          have n29 := N28.out.after' a29
          have N29 := Lib.hid n29
          clear n29
          have G29 := Lib.hid g29
          clear a29 g29
          rw [E4.out]
          go_wp2_with (fail)
          refine hK.out _ _ G29.out (fun _ => ?_)
          clear hK K
          try simp only [Act.put, List.setIfInBounds_toArray, List.set_cons_zero, List.set_cons_succ]
          refine wpAnyH_take (i := 21) (oi := { dst := some 60, op := Go.Op.binOp Go.BinOp.xor 22 (Go.Operand.tmp 55) (Go.Operand.tmp 59) 22, type := 22, pos := "law.go:64", after := #[{ on := 16, ground := Go.Ground.data }, { on := 20, ground := Go.Ground.data }, { on := 1, ground := Go.Ground.guard }], guard := some (1, true) }) (v := .int .u32 0) rfl (by kernel_rfl) (by kernel_rfl) (by kernel_rfl) (fun _ _ _ h => h) (Or.inl ⟨by rfl, ?_⟩) G29.out ?_
          · intro w' hSw; clear hSw; go_simp
          try simp only [Act.put, List.setIfInBounds_toArray, List.set_cons_zero, List.set_cons_succ]
          refine wpAnyH_take (i := 22) (oi := { dst := some 61, op := Go.Op.binOp Go.BinOp.eql 22 (Go.Operand.tmp 60) (Go.Operand.const (Go.Value.int Go.IntKind.u32 0)) 22, type := 4, pos := "law.go:64", after := #[{ on := 21, ground := Go.Ground.data }, { on := 1, ground := Go.Ground.guard }], guard := some (1, true) }) (v := .bool true) rfl (by kernel_rfl) (by kernel_rfl) (by kernel_rfl) (fun _ _ _ h => h) (Or.inl ⟨by rfl, ?_⟩) G29.out ?_
          · intro w' hSw; clear hSw; go_simp
          try simp only [Act.put, List.setIfInBounds_toArray, List.set_cons_zero, List.set_cons_succ]
          refine wpAnyH_take (i := 23) (oi := { dst := some 62, op := Go.Op.pick (Go.Operand.tmp 40) (Go.Operand.tmp 61) (Go.Operand.const (Go.Value.bool false)), type := 4, pos := "law.go:64", after := #[{ on := 1, ground := Go.Ground.data }, { on := 22, ground := Go.Ground.data }], guard := none }) (v := .bool true) rfl (by kernel_rfl) (by kernel_rfl) (by kernel_rfl) (fun _ _ _ h => h) (Or.inl ⟨by rfl, ?_⟩) G29.out ?_
          · intro w' hSw; clear hSw; go_simp
          try simp only [Act.put, List.setIfInBounds_toArray, List.set_cons_zero, List.set_cons_succ]
          refine wpAnyH_take (i := 24) (oi := { dst := some 4, op := Go.Op.assign (Go.Operand.tmp 62), type := 4, pos := "law.go:64", after := #[{ on := 23, ground := Go.Ground.data }, { on := 20, ground := Go.Ground.chain }, { on := 0, ground := Go.Ground.phase }, { on := 1, ground := Go.Ground.phase }, { on := 2, ground := Go.Ground.phase }, { on := 3, ground := Go.Ground.phase }, { on := 4, ground := Go.Ground.phase }, { on := 5, ground := Go.Ground.phase }, { on := 6, ground := Go.Ground.phase }, { on := 7, ground := Go.Ground.phase }, { on := 8, ground := Go.Ground.phase }, { on := 9, ground := Go.Ground.phase }, { on := 10, ground := Go.Ground.phase }, { on := 11, ground := Go.Ground.phase }, { on := 12, ground := Go.Ground.phase }, { on := 13, ground := Go.Ground.phase }, { on := 14, ground := Go.Ground.phase }, { on := 15, ground := Go.Ground.phase }, { on := 16, ground := Go.Ground.phase }, { on := 17, ground := Go.Ground.phase }, { on := 18, ground := Go.Ground.phase }, { on := 19, ground := Go.Ground.phase }, { on := 20, ground := Go.Ground.phase }, { on := 21, ground := Go.Ground.phase }, { on := 22, ground := Go.Ground.phase }, { on := 23, ground := Go.Ground.phase }], guard := none }) (v := .bool true) rfl (by kernel_rfl) (by kernel_rfl) (by kernel_rfl) (fun _ _ _ h => h) (Or.inl ⟨by rfl, ?_⟩) G29.out ?_
          · intro w' hSw; clear hSw; go_simp
          try simp only [Act.put, List.setIfInBounds_toArray, List.set_cons_zero, List.set_cons_succ]
          refine wpAnyH_done (by kernel_rfl) ?_ _
          refine NoPanic.normal ?_
          have bz := HBz.out.trans ((G29.out : Below _ _ _).mono HBz.out.size)
          go_wp2_with (fail)
          go_ret
          exact ⟨rfl, bz⟩
        exact AllReadyH.nil
      refine AllReadyH.cons (o := { dst := some 58, op := Go.Op.makeSlice 24 (Go.Operand.tmp 57) (Go.Operand.tmp 57), type := 24, pos := "law.go:64", after := #[{ on := 18, ground := Go.Ground.data }, { on := 18, ground := Go.Ground.data }, { on := 1, ground := Go.Ground.guard }], guard := some (1, true) }) rfl (fun K hK => ?_) ?_
      · skip
        go_simp
        have n30 : Held (W0.alloc (.cells (zeroB m) 5)) W0.heap.size (zeroB m) := ⟨_, _, Whole.made W0 _ _⟩
        have g30 : Grows W (W0.alloc (.cells (zeroB m) 5)) := G0.out.trans ((Below.refl _ _).alloc (Nat.le_refl _) _)
        refine hK.out _ _ g30 (fun _ => ?_)
        clear hK K
        try simp only [Act.put, List.setIfInBounds_toArray, List.set_cons_zero, List.set_cons_succ]
        generalize W0.alloc (.cells (zeroB m) 5) = W30 at *
        generalize W0.heap.size = i30 at *
        have N30 := Lib.hid n30
        have G30 := Lib.hid g30
        clear n30 g30
        refine wpAnyH_ready (rs := [4]) (by kernel_rfl) (by simp) ?_
        refine AllReadyH.cons (o := { dst := some 43, op := Go.Op.call { callee := Go.Callee.value (Go.Operand.func 14), args := #[Go.Operand.tmp 41, Go.Operand.tmp 42], argTypes := #[23, 24] }, type := 22, pos := "law.go:64", after := #[{ on := 2, ground := Go.Ground.data }, { on := 3, ground := Go.Ground.data }, { on := 1, ground := Go.Ground.chain }, { on := 1, ground := Go.Ground.guard }], guard := some (1, true) }) rfl (fun K hK => ?_) AllReadyH.nil
        go_simp
        refine (of_any tabN tabN_all (some ⟨xb, 0, none⟩) m m _ _ (Grows.bytes G30.out HX.out) (by unfold maxLen; omega)).mono ?_
        rintro e W31 ⟨rfl, a31⟩
        have g31 : Grows W W31 := G30.out.trans a31
        have n31 := N30.out.after' a31
        have N31 := Lib.hid n31
        clear n31
        have G31 := Lib.hid g31
        clear a31 g31
        rw [E1.out]
        go_wp2_with (fail)
        refine hK.out _ _ G31.out (fun _ => ?_)
        clear hK K
        try simp only [Act.put, List.setIfInBounds_toArray, List.set_cons_zero, List.set_cons_succ]
        refine wpAnyH_ready (rs := [9]) (by kernel_rfl) (by simp) ?_
        refine AllReadyH.cons (o := { dst := some 48, op := Go.Op.call { callee := Go.Callee.value (Go.Operand.func 14), args := #[Go.Operand.tmp 44, Go.Operand.tmp 47], argTypes := #[23, 24] }, type := 22, pos := "law.go:64", after := #[{ on := 5, ground := Go.Ground.data }, { on := 8, ground := Go.Ground.data }, { on := 4, ground := Go.Ground.chain }, { on := 1, ground := Go.Ground.guard }], guard := some (1, true) }) rfl (fun K hK => ?_) AllReadyH.nil
        go_simp
        refine (of_any tabN tabN_all A m c _ _ (Grows.bytes G31.out HAm.out) (by unfold maxLen; omega)).mono ?_
        rintro e W32 ⟨rfl, a32⟩
        have g32 : Grows W W32 := G31.out.trans a32
        have n32 := N31.out.after' a32
        have N32 := Lib.hid n32
        clear n32
        have G32 := Lib.hid g32
        clear a32 g32
        rw [E2.out]
        go_wp2_with (fail)
        refine hK.out _ _ G32.out (fun _ => ?_)
        clear hK K
        try simp only [Act.put, List.setIfInBounds_toArray, List.set_cons_zero, List.set_cons_succ]
        refine wpAnyH_take (i := 10) (oi := { dst := some 49, op := Go.Op.binOp Go.BinOp.xor 22 (Go.Operand.tmp 43) (Go.Operand.tmp 48) 22, type := 22, pos := "law.go:64", after := #[{ on := 4, ground := Go.Ground.data }, { on := 9, ground := Go.Ground.data }, { on := 1, ground := Go.Ground.guard }], guard := some (1, true) }) (v := .int .u32 (z1 : Nat)) rfl (by kernel_rfl) (by kernel_rfl) (by kernel_rfl) (fun _ _ _ h => h) (Or.inl ⟨by rfl, ?_⟩) G32.out ?_
        · intro w' hSw; clear hSw; go_simp
        try simp only [Act.put, List.setIfInBounds_toArray, List.set_cons_zero, List.set_cons_succ]
        refine wpAnyH_ready (rs := [15]) (by kernel_rfl) (by simp) ?_
        refine AllReadyH.cons (o := { dst := some 54, op := Go.Op.call { callee := Go.Callee.value (Go.Operand.func 14), args := #[Go.Operand.tmp 50, Go.Operand.tmp 53], argTypes := #[23, 24] }, type := 22, pos := "law.go:64", after := #[{ on := 11, ground := Go.Ground.data }, { on := 14, ground := Go.Ground.data }, { on := 9, ground := Go.Ground.chain }, { on := 1, ground := Go.Ground.guard }], guard := some (1, true) }) rfl (fun K hK => ?_) AllReadyH.nil
        go_simp
        refine (of_any tabN tabN_all A' m c' _ _ (Grows.bytes G32.out HBm.out) (by unfold maxLen; omega)).mono ?_
        rintro e W33 ⟨rfl, a33⟩
        have g33 : Grows W W33 := G32.out.trans a33
        have n33 := N32.out.after' a33
        have N33 := Lib.hid n33
        clear n33
        have G33 := Lib.hid g33
        clear a33 g33
        rw [E3.out]
        go_wp2_with (fail)
        refine hK.out _ _ G33.out (fun _ => ?_)
        clear hK K
        try simp only [Act.put, List.setIfInBounds_toArray, List.set_cons_zero, List.set_cons_succ]
        refine wpAnyH_take (i := 16) (oi := { dst := some 55, op := Go.Op.binOp Go.BinOp.xor 22 (Go.Operand.tmp 49) (Go.Operand.tmp 54) 22, type := 22, pos := "law.go:64", after := #[{ on := 10, ground := Go.Ground.data }, { on := 15, ground := Go.Ground.data }, { on := 1, ground := Go.Ground.guard }], guard := some (1, true) }) (v := .int .u32 (z2 : Nat)) rfl (by kernel_rfl) (by kernel_rfl) (by kernel_rfl) (fun _ _ _ h => h) (Or.inl ⟨by rfl, ?_⟩) G33.out ?_
        · intro w' hSw; clear hSw; go_simp
        try simp only [Act.put, List.setIfInBounds_toArray, List.set_cons_zero, List.set_cons_succ]
        refine wpAnyH_ready (rs := [20]) (by kernel_rfl) (by simp) ?_
        refine AllReadyH.cons (o := { dst := some 59, op := Go.Op.call { callee := Go.Callee.value (Go.Operand.func 14), args := #[Go.Operand.tmp 56, Go.Operand.tmp 58], argTypes := #[23, 24] }, type := 22, pos := "law.go:64", after := #[{ on := 17, ground := Go.Ground.data }, { on := 19, ground := Go.Ground.data }, { on := 15, ground := Go.Ground.chain }, { on := 1, ground := Go.Ground.guard }], guard := some (1, true) }) rfl (fun K hK => ?_) AllReadyH.nil
        go_simp
        refine (of_any tabN tabN_all (some ⟨i30, 0, none⟩) m m _ _ (N33.out.bytes (List.replicate m 0) rfl (by simp)) (by unfold maxLen; omega)).mono ?_
        rintro e W34 ⟨rfl, a34⟩
        have g34 : Grows W W34 := G33.out.trans a34
        have n34 := N33.out.after' a34
        have N34 := Lib.hid n34
        clear n34
        have G34 := Lib.hid g34
        clear a34 g34
        rw [E4.out]
        go_wp2_with (fail)
        refine hK.out _ _ G34.out (fun _ => ?_)
        clear hK K
        try simp only [Act.put, List.setIfInBounds_toArray, List.set_cons_zero, List.set_cons_succ]
        refine wpAnyH_take (i := 21) (oi := { dst := some 60, op := Go.Op.binOp Go.BinOp.xor 22 (Go.Operand.tmp 55) (Go.Operand.tmp 59) 22, type := 22, pos := "law.go:64", after := #[{ on := 16, ground := Go.Ground.data }, { on := 20, ground := Go.Ground.data }, { on := 1, ground := Go.Ground.guard }], guard := some (1, true) }) (v := .int .u32 0) rfl (by kernel_rfl) (by kernel_rfl) (by kernel_rfl) (fun _ _ _ h => h) (Or.inl ⟨by rfl, ?_⟩) G34.out ?_
        · intro w' hSw; clear hSw; go_simp
        try simp only [Act.put, List.setIfInBounds_toArray, List.set_cons_zero, List.set_cons_succ]
        refine wpAnyH_take (i := 22) (oi := { dst := some 61, op := Go.Op.binOp Go.BinOp.eql 22 (Go.Operand.tmp 60) (Go.Operand.const (Go.Value.int Go.IntKind.u32 0)) 22, type := 4, pos := "law.go:64", after := #[{ on := 21, ground := Go.Ground.data }, { on := 1, ground := Go.Ground.guard }], guard := some (1, true) }) (v := .bool true) rfl (by kernel_rfl) (by kernel_rfl) (by kernel_rfl) (fun _ _ _ h => h) (Or.inl ⟨by rfl, ?_⟩) G34.out ?_
        · intro w' hSw; clear hSw; go_simp
        try simp only [Act.put, List.setIfInBounds_toArray, List.set_cons_zero, List.set_cons_succ]
        refine wpAnyH_take (i := 23) (oi := { dst := some 62, op := Go.Op.pick (Go.Operand.tmp 40) (Go.Operand.tmp 61) (Go.Operand.const (Go.Value.bool false)), type := 4, pos := "law.go:64", after := #[{ on := 1, ground := Go.Ground.data }, { on := 22, ground := Go.Ground.data }], guard := none }) (v := .bool true) rfl (by kernel_rfl) (by kernel_rfl) (by kernel_rfl) (fun _ _ _ h => h) (Or.inl ⟨by rfl, ?_⟩) G34.out ?_
        · intro w' hSw; clear hSw; go_simp
        try simp only [Act.put, List.setIfInBounds_toArray, List.set_cons_zero, List.set_cons_succ]
        refine wpAnyH_take (i := 24) (oi := { dst := some 4, op := Go.Op.assign (Go.Operand.tmp 62), type := 4, pos := "law.go:64", after := #[{ on := 23, ground := Go.Ground.data }, { on := 20, ground := Go.Ground.chain }, { on := 0, ground := Go.Ground.phase }, { on := 1, ground := Go.Ground.phase }, { on := 2, ground := Go.Ground.phase }, { on := 3, ground := Go.Ground.phase }, { on := 4, ground := Go.Ground.phase }, { on := 5, ground := Go.Ground.phase }, { on := 6, ground := Go.Ground.phase }, { on := 7, ground := Go.Ground.phase }, { on := 8, ground := Go.Ground.phase }, { on := 9, ground := Go.Ground.phase }, { on := 10, ground := Go.Ground.phase }, { on := 11, ground := Go.Ground.phase }, { on := 12, ground := Go.Ground.phase }, { on := 13, ground := Go.Ground.phase }, { on := 14, ground := Go.Ground.phase }, { on := 15, ground := Go.Ground.phase }, { on := 16, ground := Go.Ground.phase }, { on := 17, ground := Go.Ground.phase }, { on := 18, ground := Go.Ground.phase }, { on := 19, ground := Go.Ground.phase }, { on := 20, ground := Go.Ground.phase }, { on := 21, ground := Go.Ground.phase }, { on := 22, ground := Go.Ground.phase }, { on := 23, ground := Go.Ground.phase }], guard := none }) (v := .bool true) rfl (by kernel_rfl) (by kernel_rfl) (by kernel_rfl) (fun _ _ _ h => h) (Or.inl ⟨by rfl, ?_⟩) G34.out ?_
        · intro w' hSw; clear hSw; go_simp
        try simp only [Act.put, List.setIfInBounds_toArray, List.set_cons_zero, List.set_cons_succ]
        refine wpAnyH_done (by kernel_rfl) ?_ _
        refine NoPanic.normal ?_
        have bz := HBz.out.trans ((G34.out : Below _ _ _).mono HBz.out.size)
        go_wp2_with (fail)
        go_ret
        exact ⟨rfl, bz⟩
      exact AllReadyH.nil
set_option maxRecDepth 100000 in
set_option maxHeartbeats 16000000 in
theorem xor_gt (A : Option Addr) (c : Nat) (xs : List UInt8) (A' : Option Addr) (c' : Nat) (ys : List UInt8) (w : World) (m : Nat) (n : Nat) (hlt : m < n) (ha : Came w A n c xs) (hb : Came w A' m c' ys) (h9 : m ≤ 9000) :
    Calls Try.prog 6 #[.slice A n c, .slice A' m c'] w fun e w' => e = .returned (.bool true) ∧ Below w.heap.size w w' := by
  have hz := zeroT
  have hreach := ha.reach
  have hcap := ha.cap
  have hreach' := hb.reach
  have hcap' := hb.cap
  have HA := Lib.hid ha
  have HB := Lib.hid hb
  have hmk := make_run m (by omega)
  have hd9 : decide ((9000 : Int) < (m : Int)) = false := by simp; omega
  clear ha hb
  go_enter Try.func6, Try.ntmps6
  go_wp2_with (fail)
  refine (head_any _).mono ?_
  rintro e w0 ⟨rfl, hb0⟩
  have HB0 := Lib.hid hb0
  clear hb0
  go_wp2_with (fail)
  refine (table_any _).mono ?_
  rintro e w1 ⟨rfl, hb1⟩
  have hb1' := HB0.out.trans (hb1.mono HB0.out.size)
  have HB1 := Lib.hid hb1'
  have hw1 := Whole.made w1 23 (arrV fun _ => 0)
  have Hw1 := Lib.hid hw1
  clear hw1 hb1 hb1' HB0
  have hW : Whole ((w1.alloc (.cells (arrV fun _ => 0) 23)).setRow w1.heap.size (arrV tabN)) w1.heap.size 23 (arrV tabN) := setRow_heap _ _ _ _ _ _ Hw1.out
  have hB : Below w.heap.size w ((w1.alloc (.cells (arrV fun _ => 0) 23)).setRow w1.heap.size (arrV tabN)) := below_setRow (HB1.out.alloc HB1.out.size _) HB1.out.size _
  have HW := Lib.hid hW
  have HBB := Lib.hid hB
  clear hW hB
  go_wp2_with (refine wpList_store_row rfl 23 _ _ rfl w1.heap.size (arrV tabN) rfl rfl 23 _ Hw1.out (by rw [arrV_size]; exact sizeT) (by rw [arrV_size, arrV_size]) (arrV_one _) ?_
               generalize (w1.alloc (.cells (arrV fun _ => 0) 23)).setRow w1.heap.size (arrV tabN) = V at *)
  clear Hw1 HB1
  generalize w1.heap.size = t0 at *
  go_loopw [9] (fun i wr => ∃ j : Nat, j ≤ m ∧ i = .int .i64 j ∧ Whole wr V.heap.size 5 (mixB xs ys m j) ∧ Below V.heap.size V wr) (fun i _ => m - (intOf i).toNat)
  case atStart => exact ⟨0, by omega, rfl, by rw [mixB_zero]; exact Whole.made V _ _, (Below.refl _ _).alloc (Nat.le_refl _) _⟩
  case round =>
    obtain ⟨j, hj, rfl, ho, hbr⟩ := hrel
    have HOR := Lib.hid ho
    have HBR := Lib.hid hbr
    clear ho hbr
    by_cases hlt2 : j < m
    · have ha1 := ((HA.out.bytes.below HBB.out).wider HBB.out.size).below HBR.out
      have hb1 := ((HB.out.bytes.below HBB.out).wider HBB.out.size).below HBR.out
      obtain ⟨ad, hAe, hca⟩ := spot_cell ha1 (show j < n by omega)
      obtain ⟨bd, hBe, hcb⟩ := spot_cell hb1 (show j < m by omega)
      have hcx := HOR.out.cell j
      rw [mixB_get _ _ _ _ _ hlt2] at hcx
      unfold byteV at hcx
      have hfx := HOR.out.free j
      have hnext := fun b => mixB_next xs ys m j hlt2 b
      have HN := Lib.hid hnext
      clear hnext ha1 hb1
      subst hAe hBe
      have hxr := xor_bits (xs.getD j 0) (ys.getD j 0)
      generalize hae : xs.getD j 0 = a at *
      generalize hbe : ys.getD j 0 = b at *
      generalize hye : UInt8.ofNat (a.toNat ^^^ b.toNat) = y at *
      have HAE := Lib.hid hae
      have HBE := Lib.hid hbe
      have HYE := Lib.hid hye
      clear hae hbe hye
      have bj0 : (0 : Int) ≤ (j : Int) := by omega
      have bj1 : (j : Int) < (m : Int) := by omega
      have bj2 : (j : Int) < (n : Int) := by omega
      have bj3 : (j : Int) < (m : Int) := by omega
      go_wp2_with (fail)
      go_region
      go_wp2_with (fail)
      go_roundw
      case rel =>
        refine ⟨j + 1, by omega, by go_num, ?_, (HBR.out.setCell (by simp) _).drew⟩
        have hs := HOR.out.put j (.int .u8 (y.toNat : Nat))
        rw [HN.out y rfl] at hs
        exact hs
      case measure => simp [intOf]; omega
    · have hjm : m = j := by omega
      subst hjm
      have hxw := HOR.out
      rw [mixB_all] at hxw
      have hT := HW.out.after' HBR.out
      have hX : Bytes wr wr.heap.size (some ⟨V.heap.size, 0, none⟩) m (xorB xs ys m) := Held.bytes ⟨_, _, hxw⟩ _ rfl (xorB_length _ _ _)
      have hAm : Bytes wr wr.heap.size A m (xs.take m) := ((((HA.out.bytes.below HBB.out).wider HBB.out.size).below HBR.out).wider HBR.out.size).first (by omega)
      have hBm : Bytes wr wr.heap.size A' m (ys.take m) := ((((HB.out.bytes.below HBB.out).wider HBB.out.size).below HBR.out).wider HBR.out.size).first (by omega)
      have hBz := HBB.out.trans (HBR.out.mono HBB.out.size)
      have h4 := on_four m (xs.take m) (ys.take m) (by rw [List.length_take, HA.out.bytes.len]; omega) (by rw [List.length_take, HB.out.bytes.len]; omega)
      rw [xorB_take] at h4
      have HT := Lib.hid hT
      have HX := Lib.hid hX
      have HAm := Lib.hid hAm
      have HBm := Lib.hid hBm
      have HBz := Lib.hid hBz
      clear hxw hT hX hAm hBm hBz
      have l1 := onN_lt tabN 0 (xorB xs ys m)
      have l2 := onN_lt tabN 0 (xs.take m)
      have l3 := onN_lt tabN 0 (ys.take m)
      have l4 := onN_lt tabN 0 (List.replicate m 0)
      generalize he1 : onN tabN 0 (xorB xs ys m) = y1 at *
      generalize he2 : onN tabN 0 (xs.take m) = y2 at *
      generalize he3 : onN tabN 0 (ys.take m) = y3 at *
      generalize he4 : onN tabN 0 (List.replicate m 0) = y4 at *
      have E1 := Lib.hid he1
      have E2 := Lib.hid he2
      have E3 := Lib.hid he3
      have E4 := Lib.hid he4
      clear he1 he2 he3 he4
      have hz1 := u32_xor_nat y1 y2 l1 l2
      have lz1 : y1 ^^^ y2 < 4294967296 := Nat.xor_lt_two_pow (n := 32) l1 l2
      generalize y1 ^^^ y2 = z1 at *
      have hz2 := u32_xor_nat z1 y3 lz1 l3
      have lz2 : z1 ^^^ y3 < 4294967296 := Nat.xor_lt_two_pow (n := 32) lz1 l3
      generalize z1 ^^^ y3 = z2 at *
      have hz3 := u32_xor_nat z2 y4 lz2 l4
      rw [h4] at hz3
      clear h4 lz1 lz2 l1 l2 l3 l4
      generalize V.heap.size = xb at *
      generalize wr = W at *
      have bj1 : (m : Int) ≤ (c : Int) := by omega
      have bj2 : (m : Int) ≤ (c' : Int) := by omega
      have bj3 : (0 : Int) ≤ (m : Int) := by omega
      go_wp2_with (fail)
      refine wp_region_noPanic ?_
      refine wp_region_held_drew (S := fun w' => Grows W w') (by kernel_rfl) ((Grows.refl W).trans ⟨rfl, rfl, rfl, Nat.le_refl _, fun _ _ => rfl⟩) (fun hHeld => ?_)
      have G0 := Lib.hid hHeld
      clear hHeld
      generalize W.drew = W0 at *
      refine wpAnyH_take (i := 0) (oi := { dst := some 39, op := Go.Op.move (Go.Operand.tmp 5), type := 4, pos := "law.go:64", after := #[], guard := none }) (v := .bool true) rfl (by kernel_rfl) (by kernel_rfl) (by kernel_rfl) (fun _ _ _ h => h) (Or.inl ⟨by rfl, ?_⟩) G0.out ?_
      · intro w' hSw; clear hSw; go_simp
      try simp only [Act.put, List.setIfInBounds_toArray, List.set_cons_zero, List.set_cons_succ]
      refine wpAnyH_take (i := 1) (oi := { dst := some 40, op := Go.Op.move (Go.Operand.tmp 39), type := 4, pos := "law.go:64", after := #[{ on := 0, ground := Go.Ground.data }], guard := none }) (v := .bool true) rfl (by kernel_rfl) (by kernel_rfl) (by kernel_rfl) (fun _ _ _ h => h) (Or.inl ⟨by rfl, ?_⟩) G0.out ?_
      · intro w' hSw; clear hSw; go_simp
      try simp only [Act.put, List.setIfInBounds_toArray, List.set_cons_zero, List.set_cons_succ]
      refine wpAnyH_take (i := 2) (oi := { dst := some 41, op := Go.Op.load 23 (Go.Operand.tmp 7), type := 23, pos := "law.go:64", after := #[{ on := 1, ground := Go.Ground.guard }], guard := some (1, true) }) (v := .agg (arrV tabN)) rfl (by kernel_rfl) (by kernel_rfl) (by kernel_rfl) (fun _ _ _ h => h) (take_whole (by rfl) 23 _ rfl t0 rfl 23 (arrV tabN) _ (fun _ h => Grows.whole h HT.out) Try.underlying23 rfl (by rw [arrV_size]; exact sizeT)) G0.out ?_
      try simp only [Act.put, List.setIfInBounds_toArray, List.set_cons_zero, List.set_cons_succ]
      refine wpAnyH_take (i := 3) (oi := { dst := some 42, op := Go.Op.move (Go.Operand.tmp 8), type := 24, pos := "law.go:64", after := #[{ on := 1, ground := Go.Ground.guard }], guard := some (1, true) }) (v := .slice (some ⟨xb, 0, none⟩) m m) rfl (by kernel_rfl) (by kernel_rfl) (by kernel_rfl) (fun _ _ _ h => h) (Or.inl ⟨by rfl, ?_⟩) G0.out ?_
      · intro w' hSw; clear hSw; go_simp
      try simp only [Act.put, List.setIfInBounds_toArray, List.set_cons_zero, List.set_cons_succ]
      refine wpAnyH_take (i := 5) (oi := { dst := some 44, op := Go.Op.load 23 (Go.Operand.tmp 7), type := 23, pos := "law.go:64", after := #[{ on := 1, ground := Go.Ground.guard }], guard := some (1, true) }) (v := .agg (arrV tabN)) rfl (by kernel_rfl) (by kernel_rfl) (by kernel_rfl) (fun _ _ _ h => h) (take_whole (by rfl) 23 _ rfl t0 rfl 23 (arrV tabN) _ (fun _ h => Grows.whole h HT.out) Try.underlying23 rfl (by rw [arrV_size]; exact sizeT)) G0.out ?_
      try simp only [Act.put, List.setIfInBounds_toArray, List.set_cons_zero, List.set_cons_succ]
      refine wpAnyH_take (i := 6) (oi := { dst := some 45, op := Go.Op.move (Go.Operand.tmp 0), type := 24, pos := "law.go:64", after := #[{ on := 1, ground := Go.Ground.guard }], guard := some (1, true) }) (v := .slice A n c) rfl (by kernel_rfl) (by kernel_rfl) (by kernel_rfl) (fun _ _ _ h => h) (Or.inl ⟨by rfl, ?_⟩) G0.out ?_
      · intro w' hSw; clear hSw; go_simp
      try simp only [Act.put, List.setIfInBounds_toArray, List.set_cons_zero, List.set_cons_succ]
      refine wpAnyH_take (i := 7) (oi := { dst := some 46, op := Go.Op.move (Go.Operand.tmp 6), type := 3, pos := "law.go:64", after := #[{ on := 1, ground := Go.Ground.guard }], guard := some (1, true) }) (v := .int .i64 (m : Nat)) rfl (by kernel_rfl) (by kernel_rfl) (by kernel_rfl) (fun _ _ _ h => h) (Or.inl ⟨by rfl, ?_⟩) G0.out ?_
      · intro w' hSw; clear hSw; go_simp
      try simp only [Act.put, List.setIfInBounds_toArray, List.set_cons_zero, List.set_cons_succ]
      refine wpAnyH_take (i := 8) (oi := { dst := some 47, op := Go.Op.slice 24 (Go.Operand.tmp 45) none (some (Go.Operand.tmp 46)) none, type := 24, pos := "law.go:64", after := #[{ on := 6, ground := Go.Ground.data }, { on := 7, ground := Go.Ground.data }, { on := 1, ground := Go.Ground.guard }], guard := some (1, true) }) (v := .slice A m c) rfl (by kernel_rfl) (by kernel_rfl) (by kernel_rfl) (fun _ _ _ h => h) (Or.inl ⟨by rfl, ?_⟩) G0.out ?_
      · intro w' hSw; clear hSw; go_simp
      try simp only [Act.put, List.setIfInBounds_toArray, List.set_cons_zero, List.set_cons_succ]
      refine wpAnyH_take (i := 11) (oi := { dst := some 50, op := Go.Op.load 23 (Go.Operand.tmp 7), type := 23, pos := "law.go:64", after := #[{ on := 1, ground := Go.Ground.guard }], guard := some (1, true) }) (v := .agg (arrV tabN)) rfl (by kernel_rfl) (by kernel_rfl) (by kernel_rfl) (fun _ _ _ h => h) (take_whole (by rfl) 23 _ rfl t0 rfl 23 (arrV tabN) _ (fun _ h => Grows.whole h HT.out) Try.underlying23 rfl (by rw [arrV_size]; exact sizeT)) G0.out ?_
      try simp only [Act.put, List.setIfInBounds_toArray, List.set_cons_zero, List.set_cons_succ]
      refine wpAnyH_take (i := 12) (oi := { dst := some 51, op := Go.Op.move (Go.Operand.tmp 1), type := 24, pos := "law.go:64", after := #[{ on := 1, ground := Go.Ground.guard }], guard := some (1, true) }) (v := .slice A' m c') rfl (by kernel_rfl) (by kernel_rfl) (by kernel_rfl) (fun _ _ _ h => h) (Or.inl ⟨by rfl, ?_⟩) G0.out ?_
      · intro w' hSw; clear hSw; go_simp
      try simp only [Act.put, List.setIfInBounds_toArray, List.set_cons_zero, List.set_cons_succ]
      refine wpAnyH_take (i := 13) (oi := { dst := some 52, op := Go.Op.move (Go.Operand.tmp 6), type := 3, pos := "law.go:64", after := #[{ on := 1, ground := Go.Ground.guard }], guard := some (1, true) }) (v := .int .i64 (m : Nat)) rfl (by kernel_rfl) (by kernel_rfl) (by kernel_rfl) (fun _ _ _ h => h) (Or.inl ⟨by rfl, ?_⟩) G0.out ?_
      · intro w' hSw; clear hSw; go_simp
      try simp only [Act.put, List.setIfInBounds_toArray, List.set_cons_zero, List.set_cons_succ]
      refine wpAnyH_take (i := 14) (oi := { dst := some 53, op := Go.Op.slice 24 (Go.Operand.tmp 51) none (some (Go.Operand.tmp 52)) none, type := 24, pos := "law.go:64", after := #[{ on := 12, ground := Go.Ground.data }, { on := 13, ground := Go.Ground.data }, { on := 1, ground := Go.Ground.guard }], guard := some (1, true) }) (v := .slice A' m c') rfl (by kernel_rfl) (by kernel_rfl) (by kernel_rfl) (fun _ _ _ h => h) (Or.inl ⟨by rfl, ?_⟩) G0.out ?_
      · intro w' hSw; clear hSw; go_simp
      try simp only [Act.put, List.setIfInBounds_toArray, List.set_cons_zero, List.set_cons_succ]
      refine wpAnyH_take (i := 17) (oi := { dst := some 56, op := Go.Op.load 23 (Go.Operand.tmp 7), type := 23, pos := "law.go:64", after := #[{ on := 1, ground := Go.Ground.guard }], guard := some (1, true) }) (v := .agg (arrV tabN)) rfl (by kernel_rfl) (by kernel_rfl) (by kernel_rfl) (fun _ _ _ h => h) (take_whole (by rfl) 23 _ rfl t0 rfl 23 (arrV tabN) _ (fun _ h => Grows.whole h HT.out) Try.underlying23 rfl (by rw [arrV_size]; exact sizeT)) G0.out ?_
      try simp only [Act.put, List.setIfInBounds_toArray, List.set_cons_zero, List.set_cons_succ]
      refine wpAnyH_take (i := 18) (oi := { dst := some 57, op := Go.Op.move (Go.Operand.tmp 6), type := 3, pos := "law.go:64", after := #[{ on := 1, ground := Go.Ground.guard }], guard := some (1, true) }) (v := .int .i64 (m : Nat)) rfl (by kernel_rfl) (by kernel_rfl) (by kernel_rfl) (fun _ _ _ h => h) (Or.inl ⟨by rfl, ?_⟩) G0.out ?_
      · intro w' hSw; clear hSw; go_simp
      try simp only [Act.put, List.setIfInBounds_toArray, List.set_cons_zero, List.set_cons_succ]
      refine wpAnyH_ready (rs := [4, 19]) (by kernel_rfl) (by simp) ?_
      refine AllReadyH.cons (o := { dst := some 43, op := Go.Op.call { callee := Go.Callee.value (Go.Operand.func 14), args := #[Go.Operand.tmp 41, Go.Operand.tmp 42], argTypes := #[23, 24] }, type := 22, pos := "law.go:64", after := #[{ on := 2, ground := Go.Ground.data }, { on := 3, ground := Go.Ground.data }, { on := 1, ground := Go.Ground.chain }, { on := 1, ground := Go.Ground.guard }], guard := some (1, true) }) rfl (fun K hK => ?_) ?_
      · skip
        go_simp
        refine (of_any tabN tabN_all (some ⟨xb, 0, none⟩) m m _ _ (Grows.bytes G0.out HX.out) (by unfold maxLen; omega)).mono ?_
        rintro e W35 ⟨rfl, a35⟩
        have g35 : Grows W W35 := G0.out.trans a35
        have G35 := Lib.hid g35
        clear a35 g35
        rw [E1.out]
        go_wp2_with (fail)
        refine hK.out _ _ G35.out (fun _ => ?_)
        clear hK K
        try simp only [Act.put, List.setIfInBounds_toArray, List.set_cons_zero, List.set_cons_succ]
        refine wpAnyH_ready (rs := [9, 19]) (by kernel_rfl) (by simp) ?_
        refine AllReadyH.cons (o := { dst := some 48, op := Go.Op.call { callee := Go.Callee.value (Go.Operand.func 14), args := #[Go.Operand.tmp 44, Go.Operand.tmp 47], argTypes := #[23, 24] }, type := 22, pos := "law.go:64", after := #[{ on := 5, ground := Go.Ground.data }, { on := 8, ground := Go.Ground.data }, { on := 4, ground := Go.Ground.chain }, { on := 1, ground := Go.Ground.guard }], guard := some (1, true) }) rfl (fun K hK => ?_) ?_
        · skip
          go_simp
          refine (of_any tabN tabN_all A m c _ _ (Grows.bytes G35.out HAm.out) (by unfold maxLen; omega)).mono ?_
          rintro e W36 ⟨rfl, a36⟩
          have g36 : Grows W W36 := G35.out.trans a36
          have G36 := Lib.hid g36
          clear a36 g36
          rw [E2.out]
          go_wp2_with (fail)
          refine hK.out _ _ G36.out (fun _ => ?_)
          clear hK K
          try simp only [Act.put, List.setIfInBounds_toArray, List.set_cons_zero, List.set_cons_succ]
          refine wpAnyH_take (i := 10) (oi := { dst := some 49, op := Go.Op.binOp Go.BinOp.xor 22 (Go.Operand.tmp 43) (Go.Operand.tmp 48) 22, type := 22, pos := "law.go:64", after := #[{ on := 4, ground := Go.Ground.data }, { on := 9, ground := Go.Ground.data }, { on := 1, ground := Go.Ground.guard }], guard := some (1, true) }) (v := .int .u32 (z1 : Nat)) rfl (by kernel_rfl) (by kernel_rfl) (by kernel_rfl) (fun _ _ _ h => h) (Or.inl ⟨by rfl, ?_⟩) G36.out ?_
          · intro w' hSw; clear hSw; go_simp
          try simp only [Act.put, List.setIfInBounds_toArray, List.set_cons_zero, List.set_cons_succ]
          refine wpAnyH_ready (rs := [15, 19]) (by kernel_rfl) (by simp) ?_
          refine AllReadyH.cons (o := { dst := some 54, op := Go.Op.call { callee := Go.Callee.value (Go.Operand.func 14), args := #[Go.Operand.tmp 50, Go.Operand.tmp 53], argTypes := #[23, 24] }, type := 22, pos := "law.go:64", after := #[{ on := 11, ground := Go.Ground.data }, { on := 14, ground := Go.Ground.data }, { on := 9, ground := Go.Ground.chain }, { on := 1, ground := Go.Ground.guard }], guard := some (1, true) }) rfl (fun K hK => ?_) ?_
          · skip
            go_simp
            refine (of_any tabN tabN_all A' m c' _ _ (Grows.bytes G36.out HBm.out) (by unfold maxLen; omega)).mono ?_
            rintro e W37 ⟨rfl, a37⟩
            have g37 : Grows W W37 := G36.out.trans a37
            have G37 := Lib.hid g37
            clear a37 g37
            rw [E3.out]
            go_wp2_with (fail)
            refine hK.out _ _ G37.out (fun _ => ?_)
            clear hK K
            try simp only [Act.put, List.setIfInBounds_toArray, List.set_cons_zero, List.set_cons_succ]
            refine wpAnyH_take (i := 16) (oi := { dst := some 55, op := Go.Op.binOp Go.BinOp.xor 22 (Go.Operand.tmp 49) (Go.Operand.tmp 54) 22, type := 22, pos := "law.go:64", after := #[{ on := 10, ground := Go.Ground.data }, { on := 15, ground := Go.Ground.data }, { on := 1, ground := Go.Ground.guard }], guard := some (1, true) }) (v := .int .u32 (z2 : Nat)) rfl (by kernel_rfl) (by kernel_rfl) (by kernel_rfl) (fun _ _ _ h => h) (Or.inl ⟨by rfl, ?_⟩) G37.out ?_
            · intro w' hSw; clear hSw; go_simp
            try simp only [Act.put, List.setIfInBounds_toArray, List.set_cons_zero, List.set_cons_succ]
            refine wpAnyH_ready (rs := [19]) (by kernel_rfl) (by simp) ?_
            refine AllReadyH.cons (o := { dst := some 58, op := Go.Op.makeSlice 24 (Go.Operand.tmp 57) (Go.Operand.tmp 57), type := 24, pos := "law.go:64", after := #[{ on := 18, ground := Go.Ground.data }, { on := 18, ground := Go.Ground.data }, { on := 1, ground := Go.Ground.guard }], guard := some (1, true) }) rfl (fun K hK => ?_) AllReadyH.nil
            go_simp
            have n38 : Held (W37.alloc (.cells (zeroB m) 5)) W37.heap.size (zeroB m) := ⟨_, _, Whole.made W37 _ _⟩
            have g38 : Grows W (W37.alloc (.cells (zeroB m) 5)) := G37.out.trans ((Below.refl _ _).alloc (Nat.le_refl _) _)
            refine hK.out _ _ g38 (fun _ => ?_)
            clear hK K
            try simp only [Act.put, List.setIfInBounds_toArray, List.set_cons_zero, List.set_cons_succ]
            generalize W37.alloc (.cells (zeroB m) 5) = W38 at *
            generalize W37.heap.size = i38 at *
            have N38 := Lib.hid n38
            have G38 := Lib.hid g38
            clear n38 g38
            refine wpAnyH_ready (rs := [20]) (by kernel_rfl) (by simp) ?_
            refine AllReadyH.cons (o := { dst := some 59, op := Go.Op.call { callee := Go.Callee.value (Go.Operand.func 14), args := #[Go.Operand.tmp 56, Go.Operand.tmp 58], argTypes := #[23, 24] }, type := 22, pos := "law.go:64", after := #[{ on := 17, ground := Go.Ground.data }, { on := 19, ground := Go.Ground.data }, { on := 15, ground := Go.Ground.chain }, { on := 1, ground := Go.Ground.guard }], guard := some (1, true) }) rfl (fun K hK => ?_) AllReadyH.nil
            go_simp
            refine (of_any tabN tabN_all (some ⟨i38, 0, none⟩) m m _ _ (N38.out.bytes (List.replicate m 0) rfl (by simp)) (by unfold maxLen; omega)).mono ?_
            rintro e W39 ⟨rfl, a39⟩
            have g39 : Grows W W39 := G38.out.trans a39
            have n39 := N38.out.after' a39
            have N39 := Lib.hid n39
            clear n39
            have G39 := Lib.hid g39
            clear a39 g39
            rw [E4.out]
            go_wp2_with (fail)
            refine hK.out _ _ G39.out (fun _ => ?_)
            clear hK K
            try simp only [Act.put, List.setIfInBounds_toArray, List.set_cons_zero, List.set_cons_succ]
            refine wpAnyH_take (i := 21) (oi := { dst := some 60, op := Go.Op.binOp Go.BinOp.xor 22 (Go.Operand.tmp 55) (Go.Operand.tmp 59) 22, type := 22, pos := "law.go:64", after := #[{ on := 16, ground := Go.Ground.data }, { on := 20, ground := Go.Ground.data }, { on := 1, ground := Go.Ground.guard }], guard := some (1, true) }) (v := .int .u32 0) rfl (by kernel_rfl) (by kernel_rfl) (by kernel_rfl) (fun _ _ _ h => h) (Or.inl ⟨by rfl, ?_⟩) G39.out ?_
            · intro w' hSw; clear hSw; go_simp
            try simp only [Act.put, List.setIfInBounds_toArray, List.set_cons_zero, List.set_cons_succ]
            refine wpAnyH_take (i := 22) (oi := { dst := some 61, op := Go.Op.binOp Go.BinOp.eql 22 (Go.Operand.tmp 60) (Go.Operand.const (Go.Value.int Go.IntKind.u32 0)) 22, type := 4, pos := "law.go:64", after := #[{ on := 21, ground := Go.Ground.data }, { on := 1, ground := Go.Ground.guard }], guard := some (1, true) }) (v := .bool true) rfl (by kernel_rfl) (by kernel_rfl) (by kernel_rfl) (fun _ _ _ h => h) (Or.inl ⟨by rfl, ?_⟩) G39.out ?_
            · intro w' hSw; clear hSw; go_simp
            try simp only [Act.put, List.setIfInBounds_toArray, List.set_cons_zero, List.set_cons_succ]
            refine wpAnyH_take (i := 23) (oi := { dst := some 62, op := Go.Op.pick (Go.Operand.tmp 40) (Go.Operand.tmp 61) (Go.Operand.const (Go.Value.bool false)), type := 4, pos := "law.go:64", after := #[{ on := 1, ground := Go.Ground.data }, { on := 22, ground := Go.Ground.data }], guard := none }) (v := .bool true) rfl (by kernel_rfl) (by kernel_rfl) (by kernel_rfl) (fun _ _ _ h => h) (Or.inl ⟨by rfl, ?_⟩) G39.out ?_
            · intro w' hSw; clear hSw; go_simp
            try simp only [Act.put, List.setIfInBounds_toArray, List.set_cons_zero, List.set_cons_succ]
            refine wpAnyH_take (i := 24) (oi := { dst := some 4, op := Go.Op.assign (Go.Operand.tmp 62), type := 4, pos := "law.go:64", after := #[{ on := 23, ground := Go.Ground.data }, { on := 20, ground := Go.Ground.chain }, { on := 0, ground := Go.Ground.phase }, { on := 1, ground := Go.Ground.phase }, { on := 2, ground := Go.Ground.phase }, { on := 3, ground := Go.Ground.phase }, { on := 4, ground := Go.Ground.phase }, { on := 5, ground := Go.Ground.phase }, { on := 6, ground := Go.Ground.phase }, { on := 7, ground := Go.Ground.phase }, { on := 8, ground := Go.Ground.phase }, { on := 9, ground := Go.Ground.phase }, { on := 10, ground := Go.Ground.phase }, { on := 11, ground := Go.Ground.phase }, { on := 12, ground := Go.Ground.phase }, { on := 13, ground := Go.Ground.phase }, { on := 14, ground := Go.Ground.phase }, { on := 15, ground := Go.Ground.phase }, { on := 16, ground := Go.Ground.phase }, { on := 17, ground := Go.Ground.phase }, { on := 18, ground := Go.Ground.phase }, { on := 19, ground := Go.Ground.phase }, { on := 20, ground := Go.Ground.phase }, { on := 21, ground := Go.Ground.phase }, { on := 22, ground := Go.Ground.phase }, { on := 23, ground := Go.Ground.phase }], guard := none }) (v := .bool true) rfl (by kernel_rfl) (by kernel_rfl) (by kernel_rfl) (fun _ _ _ h => h) (Or.inl ⟨by rfl, ?_⟩) G39.out ?_
            · intro w' hSw; clear hSw; go_simp
            try simp only [Act.put, List.setIfInBounds_toArray, List.set_cons_zero, List.set_cons_succ]
            refine wpAnyH_done (by kernel_rfl) ?_ _
            refine NoPanic.normal ?_
            have bz := HBz.out.trans ((G39.out : Below _ _ _).mono HBz.out.size)
            go_wp2_with (fail)
            go_ret
            exact ⟨rfl, bz⟩
          refine AllReadyH.cons (o := { dst := some 58, op := Go.Op.makeSlice 24 (Go.Operand.tmp 57) (Go.Operand.tmp 57), type := 24, pos := "law.go:64", after := #[{ on := 18, ground := Go.Ground.data }, { on := 18, ground := Go.Ground.data }, { on := 1, ground := Go.Ground.guard }], guard := some (1, true) }) rfl (fun K hK => ?_) ?_
          · skip
            go_simp
            have n40 : Held (W36.alloc (.cells (zeroB m) 5)) W36.heap.size (zeroB m) := ⟨_, _, Whole.made W36 _ _⟩
            have g40 : Grows W (W36.alloc (.cells (zeroB m) 5)) := G36.out.trans ((Below.refl _ _).alloc (Nat.le_refl _) _)
            refine hK.out _ _ g40 (fun _ => ?_)
            clear hK K
            try simp only [Act.put, List.setIfInBounds_toArray, List.set_cons_zero, List.set_cons_succ]
            generalize W36.alloc (.cells (zeroB m) 5) = W40 at *
            generalize W36.heap.size = i40 at *
            have N40 := Lib.hid n40
            have G40 := Lib.hid g40
            clear n40 g40
            refine wpAnyH_ready (rs := [15]) (by kernel_rfl) (by simp) ?_
            refine AllReadyH.cons (o := { dst := some 54, op := Go.Op.call { callee := Go.Callee.value (Go.Operand.func 14), args := #[Go.Operand.tmp 50, Go.Operand.tmp 53], argTypes := #[23, 24] }, type := 22, pos := "law.go:64", after := #[{ on := 11, ground := Go.Ground.data }, { on := 14, ground := Go.Ground.data }, { on := 9, ground := Go.Ground.chain }, { on := 1, ground := Go.Ground.guard }], guard := some (1, true) }) rfl (fun K hK => ?_) AllReadyH.nil
            go_simp
            refine (of_any tabN tabN_all A' m c' _ _ (Grows.bytes G40.out HBm.out) (by unfold maxLen; omega)).mono ?_
            rintro e W41 ⟨rfl, a41⟩
            have g41 : Grows W W41 := G40.out.trans a41
            have n41 := N40.out.after' a41
            have N41 := Lib.hid n41
            clear n41
            have G41 := Lib.hid g41
            clear a41 g41
            rw [E3.out]
            go_wp2_with (fail)
            refine hK.out _ _ G41.out (fun _ => ?_)
            clear hK K
            try simp only [Act.put, List.setIfInBounds_toArray, List.set_cons_zero, List.set_cons_succ]
            refine wpAnyH_take (i := 16) (oi := { dst := some 55, op := Go.Op.binOp Go.BinOp.xor 22 (Go.Operand.tmp 49) (Go.Operand.tmp 54) 22, type := 22, pos := "law.go:64", after := #[{ on := 10, ground := Go.Ground.data }, { on := 15, ground := Go.Ground.data }, { on := 1, ground := Go.Ground.guard }], guard := some (1, true) }) (v := .int .u32 (z2 : Nat)) rfl (by kernel_rfl) (by kernel_rfl) (by kernel_rfl) (fun _ _ _ h => h) (Or.inl ⟨by rfl, ?_⟩) G41.out ?_
            · intro w' hSw; clear hSw; go_simp
            try simp only [Act.put, List.setIfInBounds_toArray, List.set_cons_zero, List.set_cons_succ]
            refine wpAnyH_ready (rs := [20]) (by kernel_rfl) (by simp) ?_
            refine AllReadyH.cons (o := { dst := some 59, op := Go.Op.call { callee := Go.Callee.value (Go.Operand.func 14), args := #[Go.Operand.tmp 56, Go.Operand.tmp 58], argTypes := #[23, 24] }, type := 22, pos := "law.go:64", after := #[{ on := 17, ground := Go.Ground.data }, { on := 19, ground := Go.Ground.data }, { on := 15, ground := Go.Ground.chain }, { on := 1, ground := Go.Ground.guard }], guard := some (1, true) }) rfl (fun K hK => ?_) AllReadyH.nil
            go_simp
            refine (of_any tabN tabN_all (some ⟨i40, 0, none⟩) m m _ _ (N41.out.bytes (List.replicate m 0) rfl (by simp)) (by unfold maxLen; omega)).mono ?_
            rintro e W42 ⟨rfl, a42⟩
            have g42 : Grows W W42 := G41.out.trans a42
            have n42 := N41.out.after' a42
            have N42 := Lib.hid n42
            clear n42
            have G42 := Lib.hid g42
            clear a42 g42
            rw [E4.out]
            go_wp2_with (fail)
            refine hK.out _ _ G42.out (fun _ => ?_)
            clear hK K
            try simp only [Act.put, List.setIfInBounds_toArray, List.set_cons_zero, List.set_cons_succ]
            refine wpAnyH_take (i := 21) (oi := { dst := some 60, op := Go.Op.binOp Go.BinOp.xor 22 (Go.Operand.tmp 55) (Go.Operand.tmp 59) 22, type := 22, pos := "law.go:64", after := #[{ on := 16, ground := Go.Ground.data }, { on := 20, ground := Go.Ground.data }, { on := 1, ground := Go.Ground.guard }], guard := some (1, true) }) (v := .int .u32 0) rfl (by kernel_rfl) (by kernel_rfl) (by kernel_rfl) (fun _ _ _ h => h) (Or.inl ⟨by rfl, ?_⟩) G42.out ?_
            · intro w' hSw; clear hSw; go_simp
            try simp only [Act.put, List.setIfInBounds_toArray, List.set_cons_zero, List.set_cons_succ]
            refine wpAnyH_take (i := 22) (oi := { dst := some 61, op := Go.Op.binOp Go.BinOp.eql 22 (Go.Operand.tmp 60) (Go.Operand.const (Go.Value.int Go.IntKind.u32 0)) 22, type := 4, pos := "law.go:64", after := #[{ on := 21, ground := Go.Ground.data }, { on := 1, ground := Go.Ground.guard }], guard := some (1, true) }) (v := .bool true) rfl (by kernel_rfl) (by kernel_rfl) (by kernel_rfl) (fun _ _ _ h => h) (Or.inl ⟨by rfl, ?_⟩) G42.out ?_
            · intro w' hSw; clear hSw; go_simp
            try simp only [Act.put, List.setIfInBounds_toArray, List.set_cons_zero, List.set_cons_succ]
            refine wpAnyH_take (i := 23) (oi := { dst := some 62, op := Go.Op.pick (Go.Operand.tmp 40) (Go.Operand.tmp 61) (Go.Operand.const (Go.Value.bool false)), type := 4, pos := "law.go:64", after := #[{ on := 1, ground := Go.Ground.data }, { on := 22, ground := Go.Ground.data }], guard := none }) (v := .bool true) rfl (by kernel_rfl) (by kernel_rfl) (by kernel_rfl) (fun _ _ _ h => h) (Or.inl ⟨by rfl, ?_⟩) G42.out ?_
            · intro w' hSw; clear hSw; go_simp
            try simp only [Act.put, List.setIfInBounds_toArray, List.set_cons_zero, List.set_cons_succ]
            refine wpAnyH_take (i := 24) (oi := { dst := some 4, op := Go.Op.assign (Go.Operand.tmp 62), type := 4, pos := "law.go:64", after := #[{ on := 23, ground := Go.Ground.data }, { on := 20, ground := Go.Ground.chain }, { on := 0, ground := Go.Ground.phase }, { on := 1, ground := Go.Ground.phase }, { on := 2, ground := Go.Ground.phase }, { on := 3, ground := Go.Ground.phase }, { on := 4, ground := Go.Ground.phase }, { on := 5, ground := Go.Ground.phase }, { on := 6, ground := Go.Ground.phase }, { on := 7, ground := Go.Ground.phase }, { on := 8, ground := Go.Ground.phase }, { on := 9, ground := Go.Ground.phase }, { on := 10, ground := Go.Ground.phase }, { on := 11, ground := Go.Ground.phase }, { on := 12, ground := Go.Ground.phase }, { on := 13, ground := Go.Ground.phase }, { on := 14, ground := Go.Ground.phase }, { on := 15, ground := Go.Ground.phase }, { on := 16, ground := Go.Ground.phase }, { on := 17, ground := Go.Ground.phase }, { on := 18, ground := Go.Ground.phase }, { on := 19, ground := Go.Ground.phase }, { on := 20, ground := Go.Ground.phase }, { on := 21, ground := Go.Ground.phase }, { on := 22, ground := Go.Ground.phase }, { on := 23, ground := Go.Ground.phase }], guard := none }) (v := .bool true) rfl (by kernel_rfl) (by kernel_rfl) (by kernel_rfl) (fun _ _ _ h => h) (Or.inl ⟨by rfl, ?_⟩) G42.out ?_
            · intro w' hSw; clear hSw; go_simp
            try simp only [Act.put, List.setIfInBounds_toArray, List.set_cons_zero, List.set_cons_succ]
            refine wpAnyH_done (by kernel_rfl) ?_ _
            refine NoPanic.normal ?_
            have bz := HBz.out.trans ((G42.out : Below _ _ _).mono HBz.out.size)
            go_wp2_with (fail)
            go_ret
            exact ⟨rfl, bz⟩
          exact AllReadyH.nil
        refine AllReadyH.cons (o := { dst := some 58, op := Go.Op.makeSlice 24 (Go.Operand.tmp 57) (Go.Operand.tmp 57), type := 24, pos := "law.go:64", after := #[{ on := 18, ground := Go.Ground.data }, { on := 18, ground := Go.Ground.data }, { on := 1, ground := Go.Ground.guard }], guard := some (1, true) }) rfl (fun K hK => ?_) ?_
        · skip
          go_simp
          have n43 : Held (W35.alloc (.cells (zeroB m) 5)) W35.heap.size (zeroB m) := ⟨_, _, Whole.made W35 _ _⟩
          have g43 : Grows W (W35.alloc (.cells (zeroB m) 5)) := G35.out.trans ((Below.refl _ _).alloc (Nat.le_refl _) _)
          refine hK.out _ _ g43 (fun _ => ?_)
          clear hK K
          try simp only [Act.put, List.setIfInBounds_toArray, List.set_cons_zero, List.set_cons_succ]
          generalize W35.alloc (.cells (zeroB m) 5) = W43 at *
          generalize W35.heap.size = i43 at *
          have N43 := Lib.hid n43
          have G43 := Lib.hid g43
          clear n43 g43
          refine wpAnyH_ready (rs := [9]) (by kernel_rfl) (by simp) ?_
          refine AllReadyH.cons (o := { dst := some 48, op := Go.Op.call { callee := Go.Callee.value (Go.Operand.func 14), args := #[Go.Operand.tmp 44, Go.Operand.tmp 47], argTypes := #[23, 24] }, type := 22, pos := "law.go:64", after := #[{ on := 5, ground := Go.Ground.data }, { on := 8, ground := Go.Ground.data }, { on := 4, ground := Go.Ground.chain }, { on := 1, ground := Go.Ground.guard }], guard := some (1, true) }) rfl (fun K hK => ?_) AllReadyH.nil
          go_simp
          refine (of_any tabN tabN_all A m c _ _ (Grows.bytes G43.out HAm.out) (by unfold maxLen; omega)).mono ?_
          rintro e W44 ⟨rfl, a44⟩
          have g44 : Grows W W44 := G43.out.trans a44
          have n44 := N43.out.after' a44
          have N44 := Lib.hid n44
          clear n44
          have G44 := Lib.hid g44
          clear a44 g44
          rw [E2.out]
          go_wp2_with (fail)
          refine hK.out _ _ G44.out (fun _ => ?_)
          clear hK K
          try simp only [Act.put, List.setIfInBounds_toArray, List.set_cons_zero, List.set_cons_succ]
          refine wpAnyH_take (i := 10) (oi := { dst := some 49, op := Go.Op.binOp Go.BinOp.xor 22 (Go.Operand.tmp 43) (Go.Operand.tmp 48) 22, type := 22, pos := "law.go:64", after := #[{ on := 4, ground := Go.Ground.data }, { on := 9, ground := Go.Ground.data }, { on := 1, ground := Go.Ground.guard }], guard := some (1, true) }) (v := .int .u32 (z1 : Nat)) rfl (by kernel_rfl) (by kernel_rfl) (by kernel_rfl) (fun _ _ _ h => h) (Or.inl ⟨by rfl, ?_⟩) G44.out ?_
          · intro w' hSw; clear hSw; go_simp
          try simp only [Act.put, List.setIfInBounds_toArray, List.set_cons_zero, List.set_cons_succ]
          refine wpAnyH_ready (rs := [15]) (by kernel_rfl) (by simp) ?_
          refine AllReadyH.cons (o := { dst := some 54, op := Go.Op.call { callee := Go.Callee.value (Go.Operand.func 14), args := #[Go.Operand.tmp 50, Go.Operand.tmp 53], argTypes := #[23, 24] }, type := 22, pos := "law.go:64", after := #[{ on := 11, ground := Go.Ground.data }, { on := 14, ground := Go.Ground.data }, { on := 9, ground := Go.Ground.chain }, { on := 1, ground := Go.Ground.guard }], guard := some (1, true) }) rfl (fun K hK => ?_) AllReadyH.nil
          go_simp
          refine (of_any tabN tabN_all A' m c' _ _ (Grows.bytes G44.out HBm.out) (by unfold maxLen; omega)).mono ?_
          rintro e W45 ⟨rfl, a45⟩
          have g45 : Grows W W45 := G44.out.trans a45
          have n45 := N44.out.after' a45
          have N45 := Lib.hid n45
          clear n45
          have G45 := Lib.hid g45
          clear a45 g45
          rw [E3.out]
          go_wp2_with (fail)
          refine hK.out _ _ G45.out (fun _ => ?_)
          clear hK K
          try simp only [Act.put, List.setIfInBounds_toArray, List.set_cons_zero, List.set_cons_succ]
          refine wpAnyH_take (i := 16) (oi := { dst := some 55, op := Go.Op.binOp Go.BinOp.xor 22 (Go.Operand.tmp 49) (Go.Operand.tmp 54) 22, type := 22, pos := "law.go:64", after := #[{ on := 10, ground := Go.Ground.data }, { on := 15, ground := Go.Ground.data }, { on := 1, ground := Go.Ground.guard }], guard := some (1, true) }) (v := .int .u32 (z2 : Nat)) rfl (by kernel_rfl) (by kernel_rfl) (by kernel_rfl) (fun _ _ _ h => h) (Or.inl ⟨by rfl, ?_⟩) G45.out ?_
          · intro w' hSw; clear hSw; go_simp
          try simp only [Act.put, List.setIfInBounds_toArray, List.set_cons_zero, List.set_cons_succ]
          refine wpAnyH_ready (rs := [20]) (by kernel_rfl) (by simp) ?_
          refine AllReadyH.cons (o := { dst := some 59, op := Go.Op.call { callee := Go.Callee.value (Go.Operand.func 14), args := #[Go.Operand.tmp 56, Go.Operand.tmp 58], argTypes := #[23, 24] }, type := 22, pos := "law.go:64", after := #[{ on := 17, ground := Go.Ground.data }, { on := 19, ground := Go.Ground.data }, { on := 15, ground := Go.Ground.chain }, { on := 1, ground := Go.Ground.guard }], guard := some (1, true) }) rfl (fun K hK => ?_) AllReadyH.nil
          go_simp
          refine (of_any tabN tabN_all (some ⟨i43, 0, none⟩) m m _ _ (N45.out.bytes (List.replicate m 0) rfl (by simp)) (by unfold maxLen; omega)).mono ?_
          rintro e W46 ⟨rfl, a46⟩
          have g46 : Grows W W46 := G45.out.trans a46
          have n46 := N45.out.after' a46
          have N46 := Lib.hid n46
          clear n46
          have G46 := Lib.hid g46
          clear a46 g46
          rw [E4.out]
          go_wp2_with (fail)
          refine hK.out _ _ G46.out (fun _ => ?_)
          clear hK K
          try simp only [Act.put, List.setIfInBounds_toArray, List.set_cons_zero, List.set_cons_succ]
          refine wpAnyH_take (i := 21) (oi := { dst := some 60, op := Go.Op.binOp Go.BinOp.xor 22 (Go.Operand.tmp 55) (Go.Operand.tmp 59) 22, type := 22, pos := "law.go:64", after := #[{ on := 16, ground := Go.Ground.data }, { on := 20, ground := Go.Ground.data }, { on := 1, ground := Go.Ground.guard }], guard := some (1, true) }) (v := .int .u32 0) rfl (by kernel_rfl) (by kernel_rfl) (by kernel_rfl) (fun _ _ _ h => h) (Or.inl ⟨by rfl, ?_⟩) G46.out ?_
          · intro w' hSw; clear hSw; go_simp
          try simp only [Act.put, List.setIfInBounds_toArray, List.set_cons_zero, List.set_cons_succ]
          refine wpAnyH_take (i := 22) (oi := { dst := some 61, op := Go.Op.binOp Go.BinOp.eql 22 (Go.Operand.tmp 60) (Go.Operand.const (Go.Value.int Go.IntKind.u32 0)) 22, type := 4, pos := "law.go:64", after := #[{ on := 21, ground := Go.Ground.data }, { on := 1, ground := Go.Ground.guard }], guard := some (1, true) }) (v := .bool true) rfl (by kernel_rfl) (by kernel_rfl) (by kernel_rfl) (fun _ _ _ h => h) (Or.inl ⟨by rfl, ?_⟩) G46.out ?_
          · intro w' hSw; clear hSw; go_simp
          try simp only [Act.put, List.setIfInBounds_toArray, List.set_cons_zero, List.set_cons_succ]
          refine wpAnyH_take (i := 23) (oi := { dst := some 62, op := Go.Op.pick (Go.Operand.tmp 40) (Go.Operand.tmp 61) (Go.Operand.const (Go.Value.bool false)), type := 4, pos := "law.go:64", after := #[{ on := 1, ground := Go.Ground.data }, { on := 22, ground := Go.Ground.data }], guard := none }) (v := .bool true) rfl (by kernel_rfl) (by kernel_rfl) (by kernel_rfl) (fun _ _ _ h => h) (Or.inl ⟨by rfl, ?_⟩) G46.out ?_
          · intro w' hSw; clear hSw; go_simp
          try simp only [Act.put, List.setIfInBounds_toArray, List.set_cons_zero, List.set_cons_succ]
          refine wpAnyH_take (i := 24) (oi := { dst := some 4, op := Go.Op.assign (Go.Operand.tmp 62), type := 4, pos := "law.go:64", after := #[{ on := 23, ground := Go.Ground.data }, { on := 20, ground := Go.Ground.chain }, { on := 0, ground := Go.Ground.phase }, { on := 1, ground := Go.Ground.phase }, { on := 2, ground := Go.Ground.phase }, { on := 3, ground := Go.Ground.phase }, { on := 4, ground := Go.Ground.phase }, { on := 5, ground := Go.Ground.phase }, { on := 6, ground := Go.Ground.phase }, { on := 7, ground := Go.Ground.phase }, { on := 8, ground := Go.Ground.phase }, { on := 9, ground := Go.Ground.phase }, { on := 10, ground := Go.Ground.phase }, { on := 11, ground := Go.Ground.phase }, { on := 12, ground := Go.Ground.phase }, { on := 13, ground := Go.Ground.phase }, { on := 14, ground := Go.Ground.phase }, { on := 15, ground := Go.Ground.phase }, { on := 16, ground := Go.Ground.phase }, { on := 17, ground := Go.Ground.phase }, { on := 18, ground := Go.Ground.phase }, { on := 19, ground := Go.Ground.phase }, { on := 20, ground := Go.Ground.phase }, { on := 21, ground := Go.Ground.phase }, { on := 22, ground := Go.Ground.phase }, { on := 23, ground := Go.Ground.phase }], guard := none }) (v := .bool true) rfl (by kernel_rfl) (by kernel_rfl) (by kernel_rfl) (fun _ _ _ h => h) (Or.inl ⟨by rfl, ?_⟩) G46.out ?_
          · intro w' hSw; clear hSw; go_simp
          try simp only [Act.put, List.setIfInBounds_toArray, List.set_cons_zero, List.set_cons_succ]
          refine wpAnyH_done (by kernel_rfl) ?_ _
          refine NoPanic.normal ?_
          have bz := HBz.out.trans ((G46.out : Below _ _ _).mono HBz.out.size)
          go_wp2_with (fail)
          go_ret
          exact ⟨rfl, bz⟩
        exact AllReadyH.nil
      refine AllReadyH.cons (o := { dst := some 58, op := Go.Op.makeSlice 24 (Go.Operand.tmp 57) (Go.Operand.tmp 57), type := 24, pos := "law.go:64", after := #[{ on := 18, ground := Go.Ground.data }, { on := 18, ground := Go.Ground.data }, { on := 1, ground := Go.Ground.guard }], guard := some (1, true) }) rfl (fun K hK => ?_) ?_
      · skip
        go_simp
        have n47 : Held (W0.alloc (.cells (zeroB m) 5)) W0.heap.size (zeroB m) := ⟨_, _, Whole.made W0 _ _⟩
        have g47 : Grows W (W0.alloc (.cells (zeroB m) 5)) := G0.out.trans ((Below.refl _ _).alloc (Nat.le_refl _) _)
        refine hK.out _ _ g47 (fun _ => ?_)
        clear hK K
        try simp only [Act.put, List.setIfInBounds_toArray, List.set_cons_zero, List.set_cons_succ]
        generalize W0.alloc (.cells (zeroB m) 5) = W47 at *
        generalize W0.heap.size = i47 at *
        have N47 := Lib.hid n47
        have G47 := Lib.hid g47
        clear n47 g47
        refine wpAnyH_ready (rs := [4]) (by kernel_rfl) (by simp) ?_
        refine AllReadyH.cons (o := { dst := some 43, op := Go.Op.call { callee := Go.Callee.value (Go.Operand.func 14), args := #[Go.Operand.tmp 41, Go.Operand.tmp 42], argTypes := #[23, 24] }, type := 22, pos := "law.go:64", after := #[{ on := 2, ground := Go.Ground.data }, { on := 3, ground := Go.Ground.data }, { on := 1, ground := Go.Ground.chain }, { on := 1, ground := Go.Ground.guard }], guard := some (1, true) }) rfl (fun K hK => ?_) AllReadyH.nil
        go_simp
        refine (of_any tabN tabN_all (some ⟨xb, 0, none⟩) m m _ _ (Grows.bytes G47.out HX.out) (by unfold maxLen; omega)).mono ?_
        rintro e W48 ⟨rfl, a48⟩
        have g48 : Grows W W48 := G47.out.trans a48
        have n48 := N47.out.after' a48
        have N48 := Lib.hid n48
        clear n48
        have G48 := Lib.hid g48
        clear a48 g48
        rw [E1.out]
        go_wp2_with (fail)
        refine hK.out _ _ G48.out (fun _ => ?_)
        clear hK K
        try simp only [Act.put, List.setIfInBounds_toArray, List.set_cons_zero, List.set_cons_succ]
        refine wpAnyH_ready (rs := [9]) (by kernel_rfl) (by simp) ?_
        refine AllReadyH.cons (o := { dst := some 48, op := Go.Op.call { callee := Go.Callee.value (Go.Operand.func 14), args := #[Go.Operand.tmp 44, Go.Operand.tmp 47], argTypes := #[23, 24] }, type := 22, pos := "law.go:64", after := #[{ on := 5, ground := Go.Ground.data }, { on := 8, ground := Go.Ground.data }, { on := 4, ground := Go.Ground.chain }, { on := 1, ground := Go.Ground.guard }], guard := some (1, true) }) rfl (fun K hK => ?_) AllReadyH.nil
        go_simp
        refine (of_any tabN tabN_all A m c _ _ (Grows.bytes G48.out HAm.out) (by unfold maxLen; omega)).mono ?_
        rintro e W49 ⟨rfl, a49⟩
        have g49 : Grows W W49 := G48.out.trans a49
        have n49 := N48.out.after' a49
        have N49 := Lib.hid n49
        clear n49
        have G49 := Lib.hid g49
        clear a49 g49
        rw [E2.out]
        go_wp2_with (fail)
        refine hK.out _ _ G49.out (fun _ => ?_)
        clear hK K
        try simp only [Act.put, List.setIfInBounds_toArray, List.set_cons_zero, List.set_cons_succ]
        refine wpAnyH_take (i := 10) (oi := { dst := some 49, op := Go.Op.binOp Go.BinOp.xor 22 (Go.Operand.tmp 43) (Go.Operand.tmp 48) 22, type := 22, pos := "law.go:64", after := #[{ on := 4, ground := Go.Ground.data }, { on := 9, ground := Go.Ground.data }, { on := 1, ground := Go.Ground.guard }], guard := some (1, true) }) (v := .int .u32 (z1 : Nat)) rfl (by kernel_rfl) (by kernel_rfl) (by kernel_rfl) (fun _ _ _ h => h) (Or.inl ⟨by rfl, ?_⟩) G49.out ?_
        · intro w' hSw; clear hSw; go_simp
        try simp only [Act.put, List.setIfInBounds_toArray, List.set_cons_zero, List.set_cons_succ]
        refine wpAnyH_ready (rs := [15]) (by kernel_rfl) (by simp) ?_
        refine AllReadyH.cons (o := { dst := some 54, op := Go.Op.call { callee := Go.Callee.value (Go.Operand.func 14), args := #[Go.Operand.tmp 50, Go.Operand.tmp 53], argTypes := #[23, 24] }, type := 22, pos := "law.go:64", after := #[{ on := 11, ground := Go.Ground.data }, { on := 14, ground := Go.Ground.data }, { on := 9, ground := Go.Ground.chain }, { on := 1, ground := Go.Ground.guard }], guard := some (1, true) }) rfl (fun K hK => ?_) AllReadyH.nil
        go_simp
        refine (of_any tabN tabN_all A' m c' _ _ (Grows.bytes G49.out HBm.out) (by unfold maxLen; omega)).mono ?_
        rintro e W50 ⟨rfl, a50⟩
        have g50 : Grows W W50 := G49.out.trans a50
        have n50 := N49.out.after' a50
        have N50 := Lib.hid n50
        clear n50
        have G50 := Lib.hid g50
        clear a50 g50
        rw [E3.out]
        go_wp2_with (fail)
        refine hK.out _ _ G50.out (fun _ => ?_)
        clear hK K
        try simp only [Act.put, List.setIfInBounds_toArray, List.set_cons_zero, List.set_cons_succ]
        refine wpAnyH_take (i := 16) (oi := { dst := some 55, op := Go.Op.binOp Go.BinOp.xor 22 (Go.Operand.tmp 49) (Go.Operand.tmp 54) 22, type := 22, pos := "law.go:64", after := #[{ on := 10, ground := Go.Ground.data }, { on := 15, ground := Go.Ground.data }, { on := 1, ground := Go.Ground.guard }], guard := some (1, true) }) (v := .int .u32 (z2 : Nat)) rfl (by kernel_rfl) (by kernel_rfl) (by kernel_rfl) (fun _ _ _ h => h) (Or.inl ⟨by rfl, ?_⟩) G50.out ?_
        · intro w' hSw; clear hSw; go_simp
        try simp only [Act.put, List.setIfInBounds_toArray, List.set_cons_zero, List.set_cons_succ]
        refine wpAnyH_ready (rs := [20]) (by kernel_rfl) (by simp) ?_
        refine AllReadyH.cons (o := { dst := some 59, op := Go.Op.call { callee := Go.Callee.value (Go.Operand.func 14), args := #[Go.Operand.tmp 56, Go.Operand.tmp 58], argTypes := #[23, 24] }, type := 22, pos := "law.go:64", after := #[{ on := 17, ground := Go.Ground.data }, { on := 19, ground := Go.Ground.data }, { on := 15, ground := Go.Ground.chain }, { on := 1, ground := Go.Ground.guard }], guard := some (1, true) }) rfl (fun K hK => ?_) AllReadyH.nil
        go_simp
        refine (of_any tabN tabN_all (some ⟨i47, 0, none⟩) m m _ _ (N50.out.bytes (List.replicate m 0) rfl (by simp)) (by unfold maxLen; omega)).mono ?_
        rintro e W51 ⟨rfl, a51⟩
        have g51 : Grows W W51 := G50.out.trans a51
        have n51 := N50.out.after' a51
        have N51 := Lib.hid n51
        clear n51
        have G51 := Lib.hid g51
        clear a51 g51
        rw [E4.out]
        go_wp2_with (fail)
        refine hK.out _ _ G51.out (fun _ => ?_)
        clear hK K
        try simp only [Act.put, List.setIfInBounds_toArray, List.set_cons_zero, List.set_cons_succ]
        refine wpAnyH_take (i := 21) (oi := { dst := some 60, op := Go.Op.binOp Go.BinOp.xor 22 (Go.Operand.tmp 55) (Go.Operand.tmp 59) 22, type := 22, pos := "law.go:64", after := #[{ on := 16, ground := Go.Ground.data }, { on := 20, ground := Go.Ground.data }, { on := 1, ground := Go.Ground.guard }], guard := some (1, true) }) (v := .int .u32 0) rfl (by kernel_rfl) (by kernel_rfl) (by kernel_rfl) (fun _ _ _ h => h) (Or.inl ⟨by rfl, ?_⟩) G51.out ?_
        · intro w' hSw; clear hSw; go_simp
        try simp only [Act.put, List.setIfInBounds_toArray, List.set_cons_zero, List.set_cons_succ]
        refine wpAnyH_take (i := 22) (oi := { dst := some 61, op := Go.Op.binOp Go.BinOp.eql 22 (Go.Operand.tmp 60) (Go.Operand.const (Go.Value.int Go.IntKind.u32 0)) 22, type := 4, pos := "law.go:64", after := #[{ on := 21, ground := Go.Ground.data }, { on := 1, ground := Go.Ground.guard }], guard := some (1, true) }) (v := .bool true) rfl (by kernel_rfl) (by kernel_rfl) (by kernel_rfl) (fun _ _ _ h => h) (Or.inl ⟨by rfl, ?_⟩) G51.out ?_
        · intro w' hSw; clear hSw; go_simp
        try simp only [Act.put, List.setIfInBounds_toArray, List.set_cons_zero, List.set_cons_succ]
        refine wpAnyH_take (i := 23) (oi := { dst := some 62, op := Go.Op.pick (Go.Operand.tmp 40) (Go.Operand.tmp 61) (Go.Operand.const (Go.Value.bool false)), type := 4, pos := "law.go:64", after := #[{ on := 1, ground := Go.Ground.data }, { on := 22, ground := Go.Ground.data }], guard := none }) (v := .bool true) rfl (by kernel_rfl) (by kernel_rfl) (by kernel_rfl) (fun _ _ _ h => h) (Or.inl ⟨by rfl, ?_⟩) G51.out ?_
        · intro w' hSw; clear hSw; go_simp
        try simp only [Act.put, List.setIfInBounds_toArray, List.set_cons_zero, List.set_cons_succ]
        refine wpAnyH_take (i := 24) (oi := { dst := some 4, op := Go.Op.assign (Go.Operand.tmp 62), type := 4, pos := "law.go:64", after := #[{ on := 23, ground := Go.Ground.data }, { on := 20, ground := Go.Ground.chain }, { on := 0, ground := Go.Ground.phase }, { on := 1, ground := Go.Ground.phase }, { on := 2, ground := Go.Ground.phase }, { on := 3, ground := Go.Ground.phase }, { on := 4, ground := Go.Ground.phase }, { on := 5, ground := Go.Ground.phase }, { on := 6, ground := Go.Ground.phase }, { on := 7, ground := Go.Ground.phase }, { on := 8, ground := Go.Ground.phase }, { on := 9, ground := Go.Ground.phase }, { on := 10, ground := Go.Ground.phase }, { on := 11, ground := Go.Ground.phase }, { on := 12, ground := Go.Ground.phase }, { on := 13, ground := Go.Ground.phase }, { on := 14, ground := Go.Ground.phase }, { on := 15, ground := Go.Ground.phase }, { on := 16, ground := Go.Ground.phase }, { on := 17, ground := Go.Ground.phase }, { on := 18, ground := Go.Ground.phase }, { on := 19, ground := Go.Ground.phase }, { on := 20, ground := Go.Ground.phase }, { on := 21, ground := Go.Ground.phase }, { on := 22, ground := Go.Ground.phase }, { on := 23, ground := Go.Ground.phase }], guard := none }) (v := .bool true) rfl (by kernel_rfl) (by kernel_rfl) (by kernel_rfl) (fun _ _ _ h => h) (Or.inl ⟨by rfl, ?_⟩) G51.out ?_
        · intro w' hSw; clear hSw; go_simp
        try simp only [Act.put, List.setIfInBounds_toArray, List.set_cons_zero, List.set_cons_succ]
        refine wpAnyH_done (by kernel_rfl) ?_ _
        refine NoPanic.normal ?_
        have bz := HBz.out.trans ((G51.out : Below _ _ _).mono HBz.out.size)
        go_wp2_with (fail)
        go_ret
        exact ⟨rfl, bz⟩
      exact AllReadyH.nil

/-- The great ones. -/
theorem xor_out (A : Option Addr) (n c : Nat) (A' : Option Addr) (n' c' : Nat) (w : World) (_hr : c ≤ 140737488351232) (_hn : n ≤ c) (_hr' : c' ≤ 140737488351232) (_hn' : n' ≤ c') (h9 : 9000 < n) (h9' : 9000 < n') :
    Calls Try.prog 6 #[.slice A n c, .slice A' n' c'] w fun e w' => e = .returned (.bool true) ∧ Below w.heap.size w w' := by
  go_enter Try.func6, Try.ntmps6
  go_wp2_with (fail)
  refine (head_any _).mono ?_
  rintro e w0 ⟨rfl, hb0⟩
  have HB0 := Lib.hid hb0
  clear hb0
  go_wp2_with (fail)
  all_goals
    go_ret
    exact ⟨rfl, HB0.out⟩

set_option maxRecDepth 100000 in
theorem xor_lifted (os : Os) (started : os.Started) (H : Type) (enc : TypeId × Value → H) :
    ReturnsInHanded {} Try.checked os 6 .any (Rows.sumXorSpec.pre6 enc Try.prog Try.f6 Rows.sumXorRow.domain false) (Rows.sumXorSpec.post enc Try.prog Try.f6 false true false false) := by
  refine lift_law (C := Try.checked) H enc own started (by kernel_rfl) Try.func6
    (ChangeSpec.witness6 (enc := enc) (C := Try.checked) false ⟨#[], #[.slice none 0 0, .slice none 0 0], []⟩ 8 (by kernel_rfl) (by kernel_rfl) (by kernel_rfl) (by kernel_rfl))
    laidOut (of_readable (by kernel_rfl)) rfl Try.underlying4 rfl (fun ds hd => ?_) (fun W base args ds p hval hA hsz => ?_)
  · match ds, hd with
    | [d1, d2], _ => rfl
  · rw [Try.params6] at hA hval hsz
    obtain ⟨v0, vs0, d0, ds0, p0, q0, hargs, rfl, rfl, h0, r0⟩ := trodAll_cons hA
    obtain ⟨v1, vs1, d1, ds1, p1, q1, rfl, rfl, rfl, h1, r1⟩ := trodAll_cons r0
    obtain ⟨rfl, rfl, rfl⟩ := trodAll_nil r1
    obtain rfl : args = #[v0, v1] := by cases args; simp_all
    obtain ⟨A, n, c, xs, rfl, hx⟩ := open_bytes Try.underlying24 Try.underlying5 (by kernel_rfl) (by kernel_rfl) (hval 0 24 v0 rfl rfl) h0 hsz (j := 0) rfl rfl
    obtain ⟨A', n', c', ys, rfl, hy⟩ := open_bytes Try.underlying24 Try.underlying5 (by kernel_rfl) (by kernel_rfl) (hval 1 24 v1 rfl rfl) h1 hsz (j := 1) rfl rfl
    by_cases hbig : 9000 < n ∧ 9000 < n'
    · exact xor_out A n c A' n' c' W hx.reach hx.cap hy.reach hy.cap hbig.1 hbig.2
    · rcases Nat.lt_trichotomy n n' with hlt | heq | hgt
      · exact xor_lt A c xs A' c' ys W n n' hlt hx hy (by omega)
      · subst heq
        exact xor_eq A c xs A' c' ys W n trivial hx hy (by omega)
      · exact xor_gt A c xs A' c' ys W n' n hgt hx hy (by omega)

theorem xor_over : Rows.sumXorRow.holds Try.pinned (OpenSpec.ofChange Rows.sumXorSpec) :=
  OpenClaim.holds_of_wide 6 Try.f6 rfl rfl rfl rfl rfl rfl rfl ⟨rfl, rfl, rfl, rfl, rfl⟩ rfl rfl rfl rfl rfl (by kernel_rfl) Try.func6 (by kernel_rfl)
    (of_decide_eq_true (by kernel_rfl)) (by unfold Func.isWrapper; first | (rw [if_pos (by decide +kernel)]; kernel_rfl) | (rw [if_neg (by decide +kernel)]; exact ⟨rfl, rfl⟩))
    (fun os started H enc _ => xor_lifted os started H enc)
theorem sumXor_holds : Rows.SumXorSaid := xor_over
end Go.Proofs.Ytefempiefkcccaa
