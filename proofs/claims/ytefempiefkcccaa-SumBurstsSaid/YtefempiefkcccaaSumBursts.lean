/-
  SumBursts holds of any bytes, any place and any 32 bits: bytes that differ within 32 bits that stand together have unlike sums, by the table; no condition.
-/
import Derived.Test.YtefempiefkcccaaHead
import Derived.Test.YtefempiefkcccaaQuiet
import Derived.Test.YtefempiefkcccaaLists
import Derived.Test.YtefempiefkcccaaFrame
import Derived.Test.YtefempiefkcccaaSeat
import Derived.Test.YtefempiefkcccaaBurst
import Derived.Deep.RegionHeld3
import Derived.RegionTactic
import Derived.BigRegion
import Derived.IntWalk
namespace Go.Proofs.Ytefempiefkcccaa
open Go.ChangeShapes Go.WideShapes Go.ChangeAt Go.RowKit

theorem infoC : (Try.prog.info? 5).map (fun i => (i.zero, i.size, i.bytes)) = some (some (.int .u8 0), 1, 1) := by kernel_rfl

set_option maxRecDepth 100000 in
set_option maxHeartbeats 1000000 in
theorem bursts_out (A : Option Addr) (n c : Nat) (at' v : Nat) (w : World) (_hreach : c ≤ 140737488351232) (_hcap : n ≤ c) (hout : n < 4 ∨ 4000 < n) :
    Calls Try.prog 5 #[.slice A n c, .int .u16 (at' : Nat), .int .u32 (v : Nat)] w fun e w' => e = .returned (.bool true) ∧ Below w.heap.size w w' := by
  by_cases h4 : n < 4
  · go_enter Try.func5, Try.ntmps5
    go_wp2_with (fail)
    refine (head_any _).mono ?_
    rintro e w0 ⟨rfl, hb0⟩
    have HB0 := Lib.hid hb0
    clear hb0
    go_wp2_with (fail)
    go_ret
    exact ⟨rfl, HB0.out⟩
  · have h5 : 4000 < n := by omega
    go_enter Try.func5, Try.ntmps5
    go_wp2_with (fail)
    refine (head_any _).mono ?_
    rintro e w0 ⟨rfl, hb0⟩
    have HB0 := Lib.hid hb0
    clear hb0
    go_wp2_with (fail)
    go_ret
    exact ⟨rfl, HB0.out⟩

theorem bit_cast (v j : Nat) : ((v : Int) / 2 ^ j).tmod 2 = ((v / 2 ^ j % 2 : Nat) : Int) := by
  have e : ((v : Int) / 2 ^ j) = ((v / 2 ^ j : Nat) : Int) := by simp
  rw [e, Int.tmod_eq_emod_of_nonneg (Int.natCast_nonneg _)]
  exact (Int.natCast_emod _ _).symm
theorem bit_true (v j : Nat) (h : v / 2 ^ j % 2 = 1) : (((v : Int) / 2 ^ j).tmod 2 == 1) = true := by
  rw [bit_cast, h]; rfl
theorem bit_false (v j : Nat) (h : ¬ v / 2 ^ j % 2 = 1) : (((v : Int) / 2 ^ j).tmod 2 == 1) = false := by
  rw [bit_cast, show v / 2 ^ j % 2 = 0 by omega]; rfl

theorem shl_one (r : Nat) (h : r < 8) : (1 : Int) * 2 ^ min r 8 % 256 = ((2 ^ r : Nat) : Int) := by
  have hr : min r 8 = r := by omega
  have h2 : 2 ^ r < 2 ^ 8 := Nat.pow_lt_pow_right (by omega) h
  rw [hr, Int.one_mul, show ((2 : Int) ^ r) = ((2 ^ r : Nat) : Int) by simp]
  generalize 2 ^ r = z at *
  omega
theorem flip_bits (b : UInt8) (r : Nat) (h : r < 8) : bits BinOp.xor IntKind.u8 (b.toNat : Int) ((2 ^ r : Nat) : Int) = ((UInt8.ofNat (b.toNat ^^^ 2 ^ r)).toNat : Int) := by
  rw [flip_byte b r h]
  exact u8_xor b.toNat (2 ^ r) b.toNat_lt (Nat.pow_lt_pow_right (by omega) h)

theorem flip_cells (ys : List UInt8) (p q r z : Nat) (b b' : UInt8) (hq : p / 8 = q) (hr : p % 8 = r) (hz : 2 ^ r = z) (hb : ys.getD q 0 = b) (hb' : UInt8.ofNat (b.toNat ^^^ z) = b') :
    (ys.map byteV).set q (.int .u8 (b'.toNat : Nat)) = (flipB ys p).map byteV := by
  subst hb' hb hz hr hq
  unfold flipB
  rw [List.map_set]
  rfl

set_option maxRecDepth 100000 in
set_option maxHeartbeats 4000000 in
theorem bursts_in (A : Option Addr) (n c : Nat) (xs : List UInt8) (at' v : Nat) (hat : at' < 65536) (hv : v < 4294967296) (w : World) (hcame : Came w A n c xs) (h4 : 4 ≤ n) (h5 : n ≤ 4000) :
    Calls Try.prog 5 #[.slice A n c, .int .u16 (at' : Nat), .int .u32 (v : Nat)] w fun e w' => e = .returned (.bool true) ∧ Below w.heap.size w w' := by
  have hcap := hcame.cap
  have HX := Lib.hid hcame
  clear hcame
  have hz := zeroT
  have hd1 : decide ((n : Int) < 4) = false := by simp; omega
  have hd2 : decide ((4000 : Int) < (n : Int)) = false := by simp; omega
  have hK0 : at' % (8 * n - 31) + 32 ≤ 8 * n := by have := Nat.mod_lt at' (show 0 < 8 * n - 31 by omega); omega
  have hK : (at' : Int) % (8 * (n : Int) - 31) = ((at' % (8 * n - 31) : Nat) : Int) := by
    have e : ((8 * n - 31 : Nat) : Int) = 8 * (n : Int) - 31 := by omega
    rw [← e]
    exact (Int.natCast_emod _ _).symm
  generalize at' % (8 * n - 31) = K at *
  obtain ⟨i0, hi, hz0, hz1, hz2⟩ := info_parts infoC
  have HI := Lib.hid hi
  have HZ := Lib.hid (And.intro hz0 (And.intro hz1 hz2))
  clear hi hz0 hz1 hz2
  go_enter Try.func5, Try.ntmps5
  go_wp2_with (fail)
  refine (head_any _).mono ?_
  rintro e w0 ⟨rfl, hb0⟩
  have HB0 := Lib.hid hb0
  clear hb0
  go_wp2_with (fail)
  refine (table_any _).mono ?_
  rintro e w1 ⟨rfl, hb1⟩
  have hb1' := HB0.out.trans (hb1.mono HB0.out.size)
  have HB1 := Lib.hid hb1'
  have hw1 := Whole.made w1 23 (arrV fun _ => 0)
  have Hw1 := Lib.hid hw1
  clear hw1 hb1 hb1' HB0
  have hW : Whole ((w1.alloc (.cells (arrV fun _ => 0) 23)).setRow w1.heap.size (arrV tabN)) w1.heap.size 23 (arrV tabN) := setRow_heap _ _ _ _ _ _ Hw1.out
  have hB : Below w.heap.size w ((w1.alloc (.cells (arrV fun _ => 0) 23)).setRow w1.heap.size (arrV tabN)) := below_setRow (HB1.out.alloc HB1.out.size _) HB1.out.size _
  have HW := Lib.hid hW
  have HB := Lib.hid hB
  clear hW hB
  go_wp2_with (first
    | (refine wpList_store_row rfl 23 _ _ rfl w1.heap.size (arrV tabN) rfl rfl 23 _ Hw1.out (by rw [arrV_size]; exact sizeT) (by rw [arrV_size, arrV_size]) (arrV_one _) ?_
       generalize (w1.alloc (.cells (arrV fun _ => 0) 23)).setRow w1.heap.size (arrV tabN) = W at *)
    | (at_builtin
       refine list_append_row rfl (.tmp 30) (.tmp 31) _ rfl Try.underlying24 HI.out HZ.out.1 HZ.out.2.1 HZ.out.2.2 rfl (v := .slice (some ⟨W.heap.size, 0, none⟩) 0 0) rfl (World.ownsRow_lit W #[] 0 (Nat.le_refl _) (Nat.zero_le _) rfl) (A := A) (m := n) (c := c) rfl
         ((Row.wider (Row.below HX.out.bytes HB.out) HB.out.size).alloc (Nat.le_refl _) _) HX.out.bare (byteV_one xs) n (by omega) (xs.map byteV) rfl (by unfold maxLen; omega) (by omega) (by simp) ?_
       intro A1 c1 w2 hown1 hbare1 hg1 hat1
       have hb2 : Below W.heap.size W w2 := (((Below.refl _ _).alloc (Nat.le_refl _) _).grown hg1 (by simp) (fun k hk => by injection hk with hk; exact Nat.le_of_eq hk))
       obtain ⟨g, cap, hform, hgB, _⟩ := hown1.form (by omega)
       injection hform with hA1 _ hcap1
       subst hA1 hcap1
       have HO := Lib.hid hown1
       have HB2 := Lib.hid hb2
       clear hown1 hbare1 hg1 hat1 hb2))
  clear HI HZ Hw1
  have HKW := Lib.hid hK
  clear hK
  go_loopw [11] (fun i wr => ∃ j : Nat, j ≤ 32 ∧ i = .int .i64 j ∧ wr.ownsRow W.heap.size 5 1 (.slice (some ⟨g, 0, none⟩) n c1) n ((burstB xs K v j).map byteV) ∧ Below W.heap.size W wr) (fun i _ => 32 - (intOf i).toNat)
  case atStart => exact ⟨0, by omega, rfl, HO.out, HB2.out⟩
  case round =>
    obtain ⟨j, hj, rfl, ho, hbr⟩ := hrel
    have HOR := Lib.hid ho
    have HBR := Lib.hid hbr
    clear ho hbr
    by_cases hlt : j < 32
    · have hnext : burstB xs K v (j + 1) = if v / 2 ^ j % 2 = 1 then flipB (burstB xs K v j) (K + j) else burstB xs K v j := rfl
      by_cases hbit : v / 2 ^ j % 2 = 1
      · rw [if_pos hbit] at hnext
        have htest := bit_true v j hbit
        have HN := Lib.hid hnext
        clear hnext hbit
        have hlen := burstB_length xs K v j
        generalize burstB xs K v j = ys at *
        have hys : ys.length = n := by rw [hlen]; exact HX.out.bytes.len
        have hq0 : (K + j) / 8 < n := by omega
        have hcell : wr.cell? ⟨g, (K + j) / 8, none⟩ = some (.int .u8 ((ys.getD ((K + j) / 8) 0).toNat : Nat)) := by
          rw [HOR.out.cellAt _ (by omega), List.getElem?_map, List.getElem?_eq_getElem (by omega)]
          simp [byteV, show (K + j) / 8 < ys.length by omega]
        have hfree : wr.frozen? ⟨g, (K + j) / 8, none⟩ = false := HOR.out.frozenAt _
        have HYS := Lib.hid hys
        clear hys hlen
        have hp : (K : Int) + (j : Int) = ((K + j : Nat) : Int) := by omega
        have hwp : IntKind.i64.wrap ((K : Int) + (j : Int)) = ((K + j : Nat) : Int) := by rw [hp]; exact IntWalk.i64_in _ (by omega)
        have hwp2 : IntKind.i64.wrap ((K + j : Nat) : Int) = ((K + j : Nat) : Int) := IntWalk.i64_in _ (by omega)
        have hq1 : ((K + j : Nat) : Int) / 8 = (((K + j) / 8 : Nat) : Int) := by omega
        have hr1 : ((K + j : Nat) : Int) % 8 = (((K + j) % 8 : Nat) : Int) := by omega
        have hq2 : ((K + j : Nat) : Int).tdiv 8 = (((K + j) / 8 : Nat) : Int) := by rw [Int.tdiv_eq_ediv_of_nonneg (by omega), hq1]
        have hr2 : ((K + j : Nat) : Int).tmod 8 = (((K + j) % 8 : Nat) : Int) := by rw [Int.tmod_eq_emod_of_nonneg (by omega), hr1]
        have hr0 : (K + j) % 8 < 8 := by omega
        generalize hqe : (K + j) / 8 = q at *
        generalize hre : (K + j) % 8 = r at *
        generalize hpe : K + j = p at *
        have HPE := Lib.hid hpe
        have HQE := Lib.hid hqe
        have HRE := Lib.hid hre
        clear hpe hqe hre
        have bq0 : (0 : Int) ≤ (q : Int) := by omega
        have bq1 : (q : Int) < (n : Int) := by omega
        have br0 : (0 : Int) ≤ (r : Int) := by omega
        have br1 : (r : Int) < 8 := by omega
        have hz2 : 2 ^ r < 2 ^ 8 := Nat.pow_lt_pow_right (by omega) hr0
        have hze : (2 : Int) ^ r = ((2 ^ r : Nat) : Int) := by simp
        have hzw : IntKind.u8.wrap ((2 ^ r : Nat) : Int) = ((2 ^ r : Nat) : Int) := by rw [IntKind.wrap_u8']; generalize 2 ^ r = z at *; omega
        have hwq : IntKind.i64.wrap (q : Int) = (q : Int) := IntWalk.i64_in _ (by omega)
        generalize hye : ys.getD q 0 = b at *
        have hxb := flip_bits b r hr0
        generalize hzz : 2 ^ r = z at *
        have HZZ := Lib.hid hzz
        clear hzz hz2
        generalize hbe : UInt8.ofNat (b.toNat ^^^ z) = b' at *
        have HBE := Lib.hid hbe
        clear hbe
        have HYE := Lib.hid hye
        clear hye
        go_wp2_with (fail)
        go_region
        go_wp2_with (fail)
        go_roundw
        case rel =>
          refine ⟨j + 1, by omega, by go_num, ?_, (HBR.out.setCell (by simpa using hgB) _).drew⟩
          have hs := (HOR.out.stored q (.int .u8 (b'.toNat : Nat))).1
          rw [flip_cells ys p q r z b b' HQE.out HRE.out HZZ.out HYE.out HBE.out] at hs
          rw [HN.out]
          exact hs.drew
        case measure => simp [intOf]; omega
      · rw [if_neg hbit] at hnext
        have htest := bit_false v j hbit
        have HN := Lib.hid hnext
        clear hnext hbit
        go_wp2_with (fail)
        go_roundw
        case rel => exact ⟨j + 1, by omega, by go_num, by rw [HN.out]; exact HOR.out, HBR.out⟩
        case measure => simp [intOf]; omega
    · obtain rfl : j = 32 := by omega
      have hs := burst_sum xs K v (by rw [HX.out.bytes.len]; exact hK0) hv
      have HS := Lib.hid hs
      have hT := HW.out.after' HBR.out
      have HT := Lib.hid hT
      have hY : Bytes wr wr.heap.size (some ⟨g, 0, none⟩) n (burstB xs K v 32) := Row.owned HOR.out
      have HY := Lib.hid hY
      have hXr : Bytes wr wr.heap.size A n xs := ((HX.out.bytes.below HB.out).wider HB.out.size |>.below HBR.out).wider HBR.out.size
      have HXr := Lib.hid hXr
      have hBz := HB.out.trans (HBR.out.mono HB.out.size)
      have HBz := Lib.hid hBz
      clear hs hT hY hXr hBz
      generalize burstB xs K v 32 = ys at *
      generalize hy : onN tabN 0 ys = y1 at *
      generalize hx : onN tabN 0 xs = x1 at *
      have HYY := Lib.hid hy
      have HXX := Lib.hid hx
      clear hy hx
      have hcmp : (((y1 : Nat) : Int) == ((x1 : Nat) : Int)) = ((v : Int) == 0) := by
        by_cases h : v = 0
        · have := HS.out.2 h
          subst h this
          simp
        · have h' : ¬ y1 = x1 := fun e => h (HS.out.1 e)
          rw [beq_eq_false_iff_ne.2 (by omega), beq_eq_false_iff_ne.2 (by omega)]
      generalize hbb : ((v : Int) == 0) = b at *
      go_wp2_with (fail)
      refine q_region (by kernel_rfl) (by kernel_rfl) ?_
      refine q_op (.bool true) (by rfl) ?_ ?_
      · intro w' hC; clear hC; go_simp
      simp only [Act.put, List.setIfInBounds_toArray, List.set_cons_zero, List.set_cons_succ]
      refine q_op (.bool true) (by rfl) ?_ ?_
      · intro w' hC; clear hC; go_simp
      simp only [Act.put, List.setIfInBounds_toArray, List.set_cons_zero, List.set_cons_succ]
      refine q_row (by rfl) 23 _ rfl w1.heap.size rfl 23 (arrV tabN) _ (fun _ hC => Grows.whole hC HT.out) Try.underlying23 rfl (by rw [arrV_size]; exact sizeT) ?_
      simp only [Act.put, List.setIfInBounds_toArray, List.set_cons_zero, List.set_cons_succ]
      refine q_op (.slice (some ⟨g, 0, none⟩) n c1) (by rfl) ?_ ?_
      · intro w' hC; clear hC; go_simp
      simp only [Act.put, List.setIfInBounds_toArray, List.set_cons_zero, List.set_cons_succ]
      refine q_call 14 #[.agg (arrV tabN), .slice (some ⟨g, 0, none⟩) n c1] (.int .u32 (y1 : Nat)) (by rfl) (by intro w' hC; clear hC; go_simp) ?_ ?_
      · exact fun w' hC => (of_any tabN tabN_all (some ⟨g, 0, none⟩) n c1 _ w' (Grows.bytes hC HY.out) (by unfold maxLen; omega)).mono fun e w2 ⟨he, hb2⟩ => ⟨he.trans (by rw [HYY.out]), Grows.trans hC hb2⟩
      simp only [Act.put, List.setIfInBounds_toArray, List.set_cons_zero, List.set_cons_succ]
      refine q_row (by rfl) 23 _ rfl w1.heap.size rfl 23 (arrV tabN) _ (fun _ hC => Grows.whole hC HT.out) Try.underlying23 rfl (by rw [arrV_size]; exact sizeT) ?_
      simp only [Act.put, List.setIfInBounds_toArray, List.set_cons_zero, List.set_cons_succ]
      refine q_op (.slice A n c) (by rfl) ?_ ?_
      · intro w' hC; clear hC; go_simp
      simp only [Act.put, List.setIfInBounds_toArray, List.set_cons_zero, List.set_cons_succ]
      refine q_call 14 #[.agg (arrV tabN), .slice A n c] (.int .u32 (x1 : Nat)) (by rfl) (by intro w' hC; clear hC; go_simp) ?_ ?_
      · exact fun w' hC => (of_any tabN tabN_all A n c _ w' (Grows.bytes hC HXr.out) (by unfold maxLen; omega)).mono fun e w2 ⟨he, hb2⟩ => ⟨he.trans (by rw [HXX.out]), Grows.trans hC hb2⟩
      simp only [Act.put, List.setIfInBounds_toArray, List.set_cons_zero, List.set_cons_succ]
      refine q_op (.bool b) (by rfl) ?_ ?_
      · intro w' hC; clear hC; go_simp
      simp only [Act.put, List.setIfInBounds_toArray, List.set_cons_zero, List.set_cons_succ]
      refine q_op (.int .u32 (v : Nat)) (by rfl) ?_ ?_
      · intro w' hC; clear hC; go_simp
      simp only [Act.put, List.setIfInBounds_toArray, List.set_cons_zero, List.set_cons_succ]
      refine q_op (.bool b) (by rfl) ?_ ?_
      · intro w' hC; clear hC; go_simp
      simp only [Act.put, List.setIfInBounds_toArray, List.set_cons_zero, List.set_cons_succ]
      refine q_op (.bool true) (by rfl) ?_ ?_
      · intro w' hC; clear hC; go_simp
      simp only [Act.put, List.setIfInBounds_toArray, List.set_cons_zero, List.set_cons_succ]
      refine q_op (.bool true) (by rfl) ?_ ?_
      · intro w' hC; clear hC; go_simp
      simp only [Act.put, List.setIfInBounds_toArray, List.set_cons_zero, List.set_cons_succ]
      refine q_op (.bool true) (by rfl) ?_ ?_
      · intro w' hC; clear hC; go_simp
      simp only [Act.put, List.setIfInBounds_toArray, List.set_cons_zero, List.set_cons_succ]
      refine wpQuiet_nil ?_
      intro w' hC
      have HC := Lib.hid hC
      clear hC
      go_wp2_with (fail)
      go_ret
      exact ⟨rfl, HBz.out.trans (HC.out.mono HBz.out.size)⟩

set_option maxRecDepth 100000 in
theorem bursts_lifted (os : Os) (started : os.Started) (H : Type) (enc : TypeId × Value → H) :
    ReturnsInHanded {} Try.checked os 5 .any (Rows.sumBurstsSpec.pre6 enc Try.prog Try.f5 Rows.sumBurstsRow.domain false) (Rows.sumBurstsSpec.post enc Try.prog Try.f5 false true false false) := by
  refine lift_law (C := Try.checked) H enc own started (by kernel_rfl) Try.func5
    (ChangeSpec.witness6 (enc := enc) (C := Try.checked) false ⟨#[], #[.slice none 0 0, .int .u16 0, .int .u32 0], []⟩ 8 (by kernel_rfl) (by kernel_rfl) (by kernel_rfl) (by kernel_rfl))
    laidOut (of_readable (by kernel_rfl)) rfl Try.underlying4 rfl (fun ds hd => ?_) (fun W base args ds p hval hA hsz => ?_)
  · match ds, hd with
    | [d1, d2, d3], _ => rfl
  · rw [Try.params5] at hA hval hsz
    obtain ⟨v0, vs0, d0, ds0, p0, q0, hargs, rfl, rfl, h0, r0⟩ := trodAll_cons hA
    obtain ⟨v1, vs1, d1, ds1, p1, q1, rfl, rfl, rfl, h1, r1⟩ := trodAll_cons r0
    obtain ⟨v2, vs2, d2, ds2, p2, q2, rfl, rfl, rfl, h2, r2⟩ := trodAll_cons r1
    obtain ⟨rfl, rfl, rfl⟩ := trodAll_nil r2
    obtain rfl : args = #[v0, v1, v2] := by cases args; simp_all
    obtain ⟨A, n, c, xs, rfl, hx⟩ := open_bytes Try.underlying24 Try.underlying5 (by kernel_rfl) (by kernel_rfl) (hval 0 24 v0 rfl rfl) h0 hsz (j := 0) rfl rfl
    obtain ⟨a1, rfl, _, _, w1⟩ := open_int Try.underlying32 (hval 1 32 v1 rfl rfl) h1
    obtain ⟨a2, rfl, _, _, w2⟩ := open_int Try.underlying22 (hval 2 22 v2 rfl rfl) h2
    have b1 := bounds_u16 w1
    have b2 := bounds_u32 w2
    obtain ⟨s, rfl⟩ := Int.eq_ofNat_of_zero_le b1.1
    obtain ⟨v, rfl⟩ := Int.eq_ofNat_of_zero_le b2.1
    by_cases hin : 4 ≤ n ∧ n ≤ 4000
    · exact bursts_in A n c xs s v (by omega) (by omega) W hx hin.1 hin.2
    · exact bursts_out A n c s v W hx.reach hx.cap (by omega)

theorem bursts_over : Rows.sumBurstsRow.holds Try.pinned (OpenSpec.ofChange Rows.sumBurstsSpec) :=
  OpenClaim.holds_of_wide 5 Try.f5 rfl rfl rfl rfl rfl rfl rfl ⟨rfl, rfl, rfl, rfl, rfl⟩ rfl rfl rfl rfl rfl (by kernel_rfl) Try.func5 (by kernel_rfl)
    (of_decide_eq_true (by kernel_rfl)) (by unfold Func.isWrapper; first | (rw [if_pos (by decide +kernel)]; kernel_rfl) | (rw [if_neg (by decide +kernel)]; exact ⟨rfl, rfl⟩))
    (fun os started H enc _ => bursts_lifted os started H enc)
theorem sumBursts_holds : Rows.SumBurstsSaid := bursts_over
end Go.Proofs.Ytefempiefkcccaa
