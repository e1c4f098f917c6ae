/-
  ScanSpoilt holds of any bodies, any of their frames, any place and any 32 bits: with one frame spoilt behind its length, all others are found, and it is passed by; no condition.
-/
import Derived.Test.YtchndjebgpibjaaSpoilStep
import Derived.Test.YtchndjebgpibjaaSpoilRow
import Derived.RegionTactic
import Derived.BigRegion
import Derived.IntWalk
namespace Go.Proofs.Ytchndjebgpibjaa
open Go.ChangeShapes Go.WideShapes Go.ChangeAt Go.RowKit
attribute [local irreducible] Go.wpQuiet

theorem bit_cast (v j : Nat) : ((v : Int) / 2 ^ j).tmod 2 = ((v / 2 ^ j % 2 : Nat) : Int) := by
  have e : ((v : Int) / 2 ^ j) = ((v / 2 ^ j : Nat) : Int) := by simp
  rw [e, Int.tmod_eq_emod_of_nonneg (Int.natCast_nonneg _)]
  exact (Int.natCast_emod _ _).symm
theorem bit_true (v j : Nat) (h : v / 2 ^ j % 2 = 1) : (((v : Int) / 2 ^ j).tmod 2 == 1) = true := by
  rw [bit_cast, h]; rfl
theorem bit_false (v j : Nat) (h : ¬ v / 2 ^ j % 2 = 1) : (((v : Int) / 2 ^ j).tmod 2 == 1) = false := by
  rw [bit_cast, show v / 2 ^ j % 2 = 0 by omega]; rfl

theorem shl_one (r : Nat) (h : r < 8) : (1 : Int) * 2 ^ min r 8 % 256 = ((2 ^ r : Nat) : Int) := by
  have hr : min r 8 = r := by omega
  have h2 : 2 ^ r < 2 ^ 8 := Nat.pow_lt_pow_right (by omega) h
  rw [hr, Int.one_mul, show ((2 : Int) ^ r) = ((2 ^ r : Nat) : Int) by simp]
  generalize 2 ^ r = z at *
  omega
theorem flip_bits (b : UInt8) (r : Nat) (h : r < 8) : bits BinOp.xor IntKind.u8 (b.toNat : Int) ((2 ^ r : Nat) : Int) = ((UInt8.ofNat (b.toNat ^^^ 2 ^ r)).toNat : Int) := by
  rw [flip_byte b r h]
  exact u8_xor b.toNat (2 ^ r) b.toNat_lt (Nat.pow_lt_pow_right (by omega) h)

theorem flip_cells (ys : List UInt8) (p q r z : Nat) (b b' : UInt8) (hq : p / 8 = q) (hr : p % 8 = r) (hz : 2 ^ r = z) (hb : ys.getD q 0 = b) (hb' : UInt8.ofNat (b.toNat ^^^ z) = b') :
    (ys.map byteV).set q (.int .u8 (b'.toNat : Nat)) = (flipB ys p).map byteV := by
  subst hb' hb hz hr hq
  unfold flipB
  rw [List.map_set]
  rfl


set_option maxRecDepth 100000 in
set_option maxHeartbeats 8000000 in
theorem spoilt_zero {w : World} (A : Option Addr) (n c : Nat) (ls : List (List UInt8)) (hs : Lists w A n c ls) (hcc : c ≤ 140737488351232) (s : Nat) (_hs8 : s < 256) (a : Nat) (_ha : a < 65536) :
    Calls Try.prog 5 #[.slice A n c, .int .u8 (s : Nat), .int .u16 (a : Nat), .int .u32 0] w fun e w' => e = .returned (.bool true) ∧ Below w.heap.size w w' := by
  have HC := Lib.hid hs
  clear hs
  have hn : n ≤ 140737488351232 := by have := HC.out.cap; omega
  go_enter Try.func5, Try.ntmps5
  go_wp2_with (fail)
  refine (head3_any _).mono ?_
  rintro e w1 ⟨rfl, hb1⟩
  have HG1 := Lib.hid (show Grows w w1 from hb1)
  clear hb1
  go_wp2_with (fail)
  refine (great_any A n c ls w1 (HC.out.grow HG1.out) hn).mono ?_
  rintro e w1' ⟨g, rfl, hsm, rfl⟩
  have HSM := Lib.hid hsm
  clear hsm
  rcases g with _ | _
  all_goals
    go_wp2_with (fail)
    go_ret
    exact ⟨rfl, HG1.out⟩

set_option maxRecDepth 100000 in
set_option maxHeartbeats 8000000 in
theorem spoilt_some {w : World} (A : Option Addr) (n c : Nat) (ls : List (List UInt8)) (hs : Lists w A n c ls) (hcc : c ≤ 140737488351232) (s : Nat) (_hs8 : s < 256) (a : Nat) (_ha : a < 65536) (v : Nat) (hv : v < 4294967296) (hv0 : v ≠ 0) :
    Calls Try.prog 5 #[.slice A n c, .int .u8 (s : Nat), .int .u16 (a : Nat), .int .u32 (v : Nat)] w fun e w' => e = .returned (.bool true) ∧ Below w.heap.size w w' := by
  have dv : ((v : Int) == 0) = false := by simp; omega
  have HC := Lib.hid hs
  clear hs
  have hn : n ≤ 140737488351232 := by have := HC.out.cap; omega
  go_enter Try.func5, Try.ntmps5
  go_wp2_with (fail)
  refine (head3_any _).mono ?_
  rintro e w1 ⟨rfl, hb1⟩
  have HG1 := Lib.hid (show Grows w w1 from hb1)
  clear hb1
  go_wp2_with (fail)
  refine (great_any A n c ls w1 (HC.out.grow HG1.out) hn).mono ?_
  rintro e w1' ⟨g, rfl, hsm, rfl⟩
  have HSM := Lib.hid hsm
  clear hsm
  rcases g with _ | _
  rotate_left 1
  · go_wp2_with (fail)
    go_ret
    exact ⟨rfl, HG1.out⟩
  have hsmall := HSM.out rfl
  have hbound := small_put hsmall
  have HS := Lib.hid hsmall
  clear hsmall HSM
  go_wp2_with (fail)
  refine (put_rows A n c ls w1 (HC.out.grow HG1.out) HS.out).mono ?_
  rintro e w2 ⟨OA, oc, IA, lc, hh, rfl, ho2, hi2, hly2, hb2⟩
  have g2 : Grows w1 w2 := hb2
  have hcount := itsL_count ls 0
  have HB2 := Lib.hid (Sl.owned ho2)
  have HI2 := Lib.hid (Items.owned hly2.1.symm rfl hi2 (hly2.grow g2).2)
  have HLY := Lib.hid (hly2.grow g2)
  have HG2 := Lib.hid (Grows.trans HG1.out g2)
  have hrow := row_own hly2.1.symm rfl hi2
  have HROW := Lib.hid hrow
  have hat := fun (k : Nat) (t : It) (h : (itsL ls 0)[k]? = some t) => its_at ls 0 k t h
  have hsp := fun (k : Nat) (t : It) (h : (itsL ls 0)[k]? = some t) => spoil_row ls 0 k t h
  clear ho2 hi2 hly2 hb2 g2 hrow
  generalize itsL ls 0 = ts at *
  generalize putL ls = zs at *
  have HAT := Lib.hid hat
  have HSP := Lib.hid hsp
  clear hat hsp
  rcases Nat.eq_zero_or_pos ts.length with hM | hM
  · have hM' : ((ts.length : Int) == 0) = true := by rw [hM]; rfl
    have HM := Lib.hid hM
    clear hM
    go_wp2_with (fail)
    go_ret
    exact ⟨rfl, HG2.out⟩
  have hM' : ((ts.length : Int) == 0) = false := beq_eq_false_iff_ne.2 (by omega)
  have hM0 : ¬ ((ts.length : Int) = 0) := by omega
  have hkl : s % ts.length < ts.length := Nat.mod_lt _ hM
  have hkr : ((s : Nat) : Int).tmod (ts.length : Int) = ((s % ts.length : Nat) : Int) := by rw [Int.tmod_eq_emod_of_nonneg (by omega)]; rfl
  have hkr2 : ((s : Nat) : Int) % (ts.length : Int) = ((s % ts.length : Nat) : Int) := rfl
  generalize s % ts.length = k at *
  obtain ⟨LA, B1, m1, d1, rfl, p0, p1, -, -⟩ := HI2.out.spot hkl
  obtain ⟨t, ht⟩ : ∃ t, ts[k]? = some t := ⟨_, List.getElem?_eq_getElem hkl⟩
  have hgd : ts.getD k (0, 0, []) = t := by rw [List.getD_eq_getElem?_getD, ht]; rfl
  rw [hgd] at p0 p1
  obtain ⟨more, hgood, ht1, -, -, hup, -⟩ := HAT.out k t ht
  have hsp := HSP.out k t ht
  obtain ⟨t0, t1, t2⟩ := t
  dsimp only at p0 p1 hgood ht1 hup hsp
  have hg1 : 1 ≤ t2.length := hgood.1
  have hb9 : 9 ≤ t1 := by omega
  rw [Nat.zero_add] at hup
  have HC1 := Lib.hid p0
  have HC2 := Lib.hid p1
  have k0 : (0 : Int) ≤ (k : Int) := by omega
  have k1 : (k : Int) < (ts.length : Int) := by omega
  have hR : a % (8 * (t1 - 4) - 31) < 8 * (t1 - 4) - 31 := Nat.mod_lt _ (by omega)
  have hre : ((8 * (t1 - 4) - 31 : Nat) : Int) = 8 * ((t1 : Int) - 4) - 31 := by omega
  have hr1 : ((a : Nat) : Int).tmod (8 * ((t1 : Int) - 4) - 31) = ((a % (8 * (t1 - 4) - 31) : Nat) : Int) := by
    rw [← hre, Int.tmod_eq_emod_of_nonneg (by omega)]
    exact (Int.natCast_emod _ _).symm
  have hr2 : ((a : Nat) : Int) % (8 * ((t1 : Int) - 4) - 31) = ((a % (8 * (t1 - 4) - 31) : Nat) : Int) := by
    rw [← hre]
    exact (Int.natCast_emod _ _).symm
  generalize a % (8 * (t1 - 4) - 31) = r at *
  obtain ⟨K, hK⟩ : ∃ K, K = 8 * (t0 + 4) + r := ⟨_, rfl⟩
  have hK0 : K + 32 ≤ 8 * zs.length := by omega
  have hsp2 := hsp K v (by omega) (by omega) hv hv0
  have HS2 := Lib.hid hsp2
  have HKE := Lib.hid hK
  have hKi2 : Hid (8 * ((t0 : Int) + 4) + (r : Int) = (K : Int)) := Lib.hid (by omega)
  have hKi : 8 * ((t0 : Int) + 4) + (r : Int) = (K : Int) := by omega
  have q1 : IntKind.i64.wrap ((t0 : Int) + 4) = (t0 : Int) + 4 := IntWalk.i64_in _ (by omega)
  have q2 : IntKind.i64.wrap (8 * ((t0 : Int) + 4)) = 8 * ((t0 : Int) + 4) := IntWalk.i64_in _ (by omega)
  have q3 : IntKind.i64.wrap ((t1 : Int) - 4) = (t1 : Int) - 4 := IntWalk.i64_in _ (by omega)
  have q4 : IntKind.i64.wrap (8 * ((t1 : Int) - 4)) = 8 * ((t1 : Int) - 4) := IntWalk.i64_in _ (by omega)
  have q5 : IntKind.i64.wrap (8 * ((t1 : Int) - 4) - 31) = 8 * ((t1 : Int) - 4) - 31 := IntWalk.i64_in _ (by omega)
  have q6 : ¬ (8 * ((t1 : Int) - 4) - 31 = 0) := by omega
  have q7 : IntKind.i64.wrap (8 * ((t0 : Int) + 4) + (r : Int)) = (K : Int) := by rw [hKi]; exact IntWalk.i64_in _ (by omega)
  have q8 : IntKind.i64.wrap (r : Int) = (r : Int) := IntWalk.i64_in _ (by omega)
  have qa : IntKind.i64.wrap ((a : Nat) : Int) = ((a : Nat) : Int) := IntWalk.i64_in _ (by omega)
  have HT := Lib.hid ht
  have hlen : zs.length ≤ 180000 := by omega
  clear p0 p1 hgd hgood ht1 hsp hR hre hsp2 hK hKi ht more
  go_wp2_with (fail)
  clear hkr hkr2
  refine q_region (by kernel_rfl) (by kernel_rfl) ?_
  iterate 17 (refine q_op' (v := ?_) (a' := ?_) (by rfl) ?_ ?_ ?_
              rotate_left 2
              · intro w' hC
                have c1 := HC1.out w' hC
                have c2 := HC2.out w' hC
                clear hC
                go_simp
                try with_reducible rfl
              · simp only [Act.put, List.setIfInBounds_toArray, List.set_cons_zero, List.set_cons_succ]
                try rfl)
  refine q_op' (v := .int .i64 (r : Int)) (a' := ?_) (by rfl) ?_ ?_ ?_
  rotate_left 1
  · intro w' hC
    clear hC
    go_simp <;> first | exact hr2 | exact hr1 | (rw [qa]; exact hr1) | (rw [qa]; exact hr2) | (rw [hr2]; done) | (rw [hr2]; exact q8)
  · simp only [Act.put, List.setIfInBounds_toArray, List.set_cons_zero, List.set_cons_succ]
    try rfl
  refine q_op' (v := .int .i64 (K : Int)) (a' := ?_) (by rfl) ?_ ?_ ?_
  rotate_left 1
  · intro w' hC
    clear hC
    go_simp <;> first | exact q7 | exact hKi2.out
  · simp only [Act.put, List.setIfInBounds_toArray, List.set_cons_zero, List.set_cons_succ]
    try rfl
  refine q_op' (v := .int .i64 (K : Int)) (a' := ?_) (by rfl) ?_ ?_ ?_
  rotate_left 1
  · intro w' hC
    clear hC
    go_simp
  · simp only [Act.put, List.setIfInBounds_toArray, List.set_cons_zero, List.set_cons_succ]
    try rfl
  refine wpQuiet_nil ?_
  intro w5 hC
  have HCw5 := Lib.hid hC
  clear hC
  clear q1 q2 q3 q4 q5 q6 q7 q8 qa hr1 hr2
  have HG5 := Lib.hid (Grows.trans HG2.out HCw5.out)
  go_wp2_with (first
    | (at_builtin
       refine list_append_sl rfl (.tmp 62) (.tmp 63) rfl rfl (owned_none w5) (A := OA) (m := zs.length) (c := oc) rfl ((HB2.out.grow HCw5.out).alloc _) zs.length (by omega) zs rfl (by omega) (le_alloc _ _) ?_
       intro A4 c4 w4 hown4 hb4
       obtain ⟨g, cap, hform, hgB, _⟩ := hown4.form (by omega)
       injection hform with hA1 _ hcap1
       subst hA1 hcap1
       have HO := Lib.hid hown4
       have HB4 := Lib.hid (Below.trans ((Below.refl _ w5).alloc (Nat.le_refl _) _) hb4)
       clear hown4 hb4))
  generalize hNe : zs.length = N at *
  have HNE := Lib.hid hNe
  have HZL := Lib.hid hNe
  have hN1 : N ≤ 180000 := by omega
  clear hNe
  go_loopw [15] (fun i wr => ∃ j : Nat, j ≤ 32 ∧ i = .int .i64 j ∧ wr.ownsRow w5.heap.size 5 1 (.slice (some ⟨g, 0, none⟩) N c4) N ((burstB zs K v j).map byteV) ∧ Below w5.heap.size w5 wr) (fun i _ => 32 - (intOf i).toNat)
  case atStart => exact ⟨0, by omega, rfl, HO.out, HB4.out⟩
  case round =>
    obtain ⟨j, hj, rfl, ho, hbr⟩ := hrel
    have HOR := Lib.hid ho
    have HBR := Lib.hid hbr
    clear ho hbr
    by_cases hlt : j < 32
    · have hnext : burstB zs K v (j + 1) = if v / 2 ^ j % 2 = 1 then flipB (burstB zs K v j) (K + j) else burstB zs K v j := rfl
      by_cases hbit : v / 2 ^ j % 2 = 1
      · rw [if_pos hbit] at hnext
        have htest := bit_true v j hbit
        have HN := Lib.hid hnext
        clear hnext hbit
        have hlen := burstB_length zs K v j
        generalize burstB zs K v j = ys at *
        have hys : ys.length = N := by rw [hlen]; exact HZL.out
        have hq0 : (K + j) / 8 < N := by omega
        have hcell : wr.cell? ⟨g, (K + j) / 8, none⟩ = some (.int .u8 ((ys.getD ((K + j) / 8) 0).toNat : Nat)) := by
          rw [HOR.out.cellAt _ (by omega), List.getElem?_map, List.getElem?_eq_getElem (by omega)]
          simp [byteV, show (K + j) / 8 < ys.length by omega]
        have hfree : wr.frozen? ⟨g, (K + j) / 8, none⟩ = false := HOR.out.frozenAt _
        have HYS := Lib.hid hys
        clear hys hlen
        have hp : (K : Int) + (j : Int) = ((K + j : Nat) : Int) := by omega
        have hwp : IntKind.i64.wrap ((K : Int) + (j : Int)) = ((K + j : Nat) : Int) := by rw [hp]; exact IntWalk.i64_in _ (by omega)
        have hwp2 : IntKind.i64.wrap ((K + j : Nat) : Int) = ((K + j : Nat) : Int) := IntWalk.i64_in _ (by omega)
        have hq1 : ((K + j : Nat) : Int) / 8 = (((K + j) / 8 : Nat) : Int) := by omega
        have hr1 : ((K + j : Nat) : Int) % 8 = (((K + j) % 8 : Nat) : Int) := by omega
        have hq2 : ((K + j : Nat) : Int).tdiv 8 = (((K + j) / 8 : Nat) : Int) := by rw [Int.tdiv_eq_ediv_of_nonneg (by omega), hq1]
        have hr2 : ((K + j : Nat) : Int).tmod 8 = (((K + j) % 8 : Nat) : Int) := by rw [Int.tmod_eq_emod_of_nonneg (by omega), hr1]
        have hr0 : (K + j) % 8 < 8 := by omega
        generalize hqe : (K + j) / 8 = q at *
        generalize hre : (K + j) % 8 = r at *
        generalize hpe : K + j = p at *
        have HPE := Lib.hid hpe
        have HQE := Lib.hid hqe
        have HRE := Lib.hid hre
        clear hpe hqe hre
        have bq0 : (0 : Int) ≤ (q : Int) := by omega
        have bq1 : (q : Int) < (N : Int) := by omega
        have br0 : (0 : Int) ≤ (r : Int) := by omega
        have br1 : (r : Int) < 8 := by omega
        have hz2 : 2 ^ r < 2 ^ 8 := Nat.pow_lt_pow_right (by omega) hr0
        have hze : (2 : Int) ^ r = ((2 ^ r : Nat) : Int) := by simp
        have hzw : IntKind.u8.wrap ((2 ^ r : Nat) : Int) = ((2 ^ r : Nat) : Int) := by rw [IntKind.wrap_u8']; generalize 2 ^ r = z at *; omega
        have hwq : IntKind.i64.wrap (q : Int) = (q : Int) := IntWalk.i64_in _ (by omega)
        generalize hye : ys.getD q 0 = b at *
        have hxb := flip_bits b r hr0
        generalize hzz : 2 ^ r = z at *
        have HZZ := Lib.hid hzz
        clear hzz hz2
        generalize hbe : UInt8.ofNat (b.toNat ^^^ z) = b' at *
        have HBE := Lib.hid hbe
        clear hbe
        have HYE := Lib.hid hye
        clear hye
        go_wp2_with (fail)
        go_region
        go_wp2_with (fail)
        go_roundw
        case rel =>
          refine ⟨j + 1, by omega, by go_num, ?_, (HBR.out.setCell (by simpa using hgB) _).drew⟩
          have hs := (HOR.out.stored q (.int .u8 (b'.toNat : Nat))).1
          rw [flip_cells ys p q r z b b' HQE.out HRE.out HZZ.out HYE.out HBE.out] at hs
          rw [HN.out]
          exact hs.drew
        case measure => simp [intOf]; omega
      · rw [if_neg hbit] at hnext
        have htest := bit_false v j hbit
        have HN := Lib.hid hnext
        clear hnext hbit
        go_wp2_with (fail)
        go_roundw
        case rel => exact ⟨j + 1, by omega, by go_num, by rw [HN.out]; exact HOR.out, HBR.out⟩
        case measure => simp [intOf]; omega
    · obtain rfl : j = 32 := by omega
      have GR : Grows w2 wr := Grows.trans HCw5.out HBR.out
      have HGR := Lib.hid (Grows.trans HG5.out HBR.out)
      have HSLX := Lib.hid (Sl.owned HOR.out)
      have HLYR := Lib.hid (HLY.out.grow GR)
      have hrw := GR.row HROW.out.1
      have hhl : ts.length = hh.length := HLY.out.1.symm
      have hcap := HROW.out.2.1
      have hp1 := row_first hhl hrw (k := k) (by omega)
      have hp2 := row_behind hhl hrw (k := k + 1) (c := lc) (by omega) hcap
      have HP1 := Lib.hid hp1
      have HP2 := Lib.hid hp2
      have KW : IntKind.i64.wrap ((k : Int) + 1) = (k : Int) + 1 := IntWalk.i64_in _ (by omega)
      have z1 : (k : Int) ≤ (lc : Int) := by omega
      have z2 : (k : Int) + 1 ≤ (ts.length : Int) := by omega
      have z3 : (0 : Int) ≤ (k : Int) + 1 := by omega
      have z4 : (ts.length : Int) ≤ (lc : Int) := by omega
      have hmt : ts.length ≤ 20000 := by omega
      obtain ⟨N7, hN7⟩ : ∃ N7, k + (ts.length - (k + 1)) = N7 := ⟨_, rfl⟩
      have hN7b : N7 ≤ 20000 := by omega
      have HN7 := Lib.hid hN7
      clear hN7
      clear GR hrw hp1 hp2 hhl
      by_cases hlk : lc = k + 1
      · subst hlk
        have z5 : (k : Int) ≤ (k : Int) + 1 := by omega
        have z6 : (ts.length : Int) ≤ (k : Int) + 1 := by omega
        have z7 : (k : Int) ≤ (ts.length : Int) := by omega
        have hp2 := HP2.out
        rw [if_pos rfl, show ts.length - (k + 1) = 0 by omega] at hp2
        have HP2' := Lib.hid hp2
        clear hp2
        go_wp2_with (fail)
        go_region_held3 (fun _ => True) (trivial)
          ((first
          | (refine step_append_items (by rfl) (.tmp 93) (.tmp 96) (by rfl) (base := wr.heap.size) (by rfl) (own_empty wr) (by rfl) (Row.drew (HP1.out.alloc (Nat.le_refl _) _)) (fun h => by cases h) (by omega) k (by omega) (by omega) (grows_empty wr).size ?_
             intro A6 c6 w6 hown6 hb6
             have HO6 := Lib.hid hown6
             have HW6 := Lib.hid (show Grows wr w6 from Below.trans (grows_empty wr) hb6)
             clear hown6 hb6)
          | (refine step_append_items (by rfl) (.tmp 97) (.tmp 101) (by rfl) (base := wr.heap.size) (by rfl) HO6.out (by rfl) (Grows.row HW6.out HP2'.out) (fun h => by cases h) (by omega) N7 (by have := HN7.out; omega) (by omega) HW6.out.size ?_
             intro A7 c7 w7 hown7 hb7
             have HO7 := Lib.hid hown7
             have HW7 := Lib.hid (show Grows wr w7 from Below.trans HW6.out hb7)
             clear hown7 hb7)))
        go_wp2_with (fail)
        have hxl := HSLX.out.grow HW7.out
        have h3 := all_in (some ⟨g, 0, none⟩) N c4 (burstB zs K v 32) w7 hxl (by omega)
        rw [HS2.out] at h3
        obtain ⟨zz, hzz⟩ : ∃ zz, ts.take k ++ ts.drop (k + 1) = zz := ⟨_, rfl⟩
        rw [hzz] at h3
        have hpl : zz.length = N7 := by rw [← hzz, List.length_append, List.length_take, List.length_drop]; have := HN7.out; omega
        have HZZ := Lib.hid hzz
        clear hzz
        dsimp only at h3
        rw [Nat.zero_add] at h3
        have HH3 := Lib.hid h3
        clear h3 hxl
        refine HH3.out.mono ?_
        rintro e w8 ⟨A8, c8, hh8, rfl, ao8, ab8, hb8⟩
        have g8 : Grows w7 w8 := hb8
        have HI8 := Lib.hid (items_own rfl ao8 ab8)
        have HPL := Lib.hid hpl
        have hir : Items w7 A7 N7 c7 zz := by
          have hpl := HPL.out
          have hp := ((HLYR.out.grow HW7.out).part k).2
          rw [← HZZ.out] at hpl ⊢
          have ho := HO7.out
          rw [List.nil_append, ← itCells_append _ _ _ _ (by rw [List.length_take, List.length_take, HLYR.out.1])] at ho
          exact Items.owned ((HLYR.out.part k).1.symm) hpl ho hp
        have HIR := Lib.hid (hir.grow g8)
        have HG8 := Lib.hid (Grows.trans HGR.out (Grows.trans HW7.out g8))
        clear ao8 ab8 hb8 g8 hir hpl
        go_wp2_with (fail)
        have hsame := same_any A8 zz.length c8 zz A7 N7 c7 zz _ HI8.out HIR.out (by rw [HPL.out]; omega) (by omega)
        rw [decide_eq_true rfl] at hsame
        refine hsame.mono ?_
        clear hsame
        rintro e w9 ⟨rfl, hb9⟩
        have HG9 := Lib.hid (Grows.trans HG8.out (show Grows w8 w9 from hb9))
        clear hb9
        go_wp2_with (fail)
        go_ret
        exact ⟨rfl, HG9.out⟩
      · have hp2 := HP2.out
        rw [if_neg hlk] at hp2
        have HP2' := Lib.hid hp2
        clear hp2
        go_wp2_with (fail)
        go_region_held3 (fun _ => True) (trivial)
          ((first
          | (refine step_append_items (by rfl) (.tmp 93) (.tmp 96) (by rfl) (base := wr.heap.size) (by rfl) (own_empty wr) (by rfl) (Row.drew (HP1.out.alloc (Nat.le_refl _) _)) (fun h => by cases h) (by omega) k (by omega) (by omega) (grows_empty wr).size ?_
             intro A6 c6 w6 hown6 hb6
             have HO6 := Lib.hid hown6
             have HW6 := Lib.hid (show Grows wr w6 from Below.trans (grows_empty wr) hb6)
             clear hown6 hb6)
          | (refine step_append_items (by rfl) (.tmp 97) (.tmp 101) (by rfl) (base := wr.heap.size) (by rfl) HO6.out (by rfl) (Grows.row HW6.out HP2'.out) (fun h => by cases h) (by omega) N7 HN7.out (by omega) HW6.out.size ?_
             intro A7 c7 w7 hown7 hb7
             have HO7 := Lib.hid hown7
             have HW7 := Lib.hid (show Grows wr w7 from Below.trans HW6.out hb7)
             clear hown7 hb7)))
        go_wp2_with (fail)
        have hxl := HSLX.out.grow HW7.out
        have h3 := all_in (some ⟨g, 0, none⟩) N c4 (burstB zs K v 32) w7 hxl (by omega)
        rw [HS2.out] at h3
        obtain ⟨zz, hzz⟩ : ∃ zz, ts.take k ++ ts.drop (k + 1) = zz := ⟨_, rfl⟩
        rw [hzz] at h3
        have hpl : zz.length = N7 := by rw [← hzz, List.length_append, List.length_take, List.length_drop]; have := HN7.out; omega
        have HZZ := Lib.hid hzz
        clear hzz
        dsimp only at h3
        rw [Nat.zero_add] at h3
        have HH3 := Lib.hid h3
        clear h3 hxl
        refine HH3.out.mono ?_
        rintro e w8 ⟨A8, c8, hh8, rfl, ao8, ab8, hb8⟩
        have g8 : Grows w7 w8 := hb8
        have HI8 := Lib.hid (items_own rfl ao8 ab8)
        have HPL := Lib.hid hpl
        have hir : Items w7 A7 N7 c7 zz := by
          have hpl := HPL.out
          have hp := ((HLYR.out.grow HW7.out).part k).2
          rw [← HZZ.out] at hpl ⊢
          have ho := HO7.out
          rw [List.nil_append, ← itCells_append _ _ _ _ (by rw [List.length_take, List.length_take, HLYR.out.1])] at ho
          exact Items.owned ((HLYR.out.part k).1.symm) hpl ho hp
        have HIR := Lib.hid (hir.grow g8)
        have HG8 := Lib.hid (Grows.trans HGR.out (Grows.trans HW7.out g8))
        clear ao8 ab8 hb8 g8 hir hpl
        go_wp2_with (fail)
        have hsame := same_any A8 zz.length c8 zz A7 N7 c7 zz _ HI8.out HIR.out (by rw [HPL.out]; omega) (by omega)
        rw [decide_eq_true rfl] at hsame
        refine hsame.mono ?_
        clear hsame
        rintro e w9 ⟨rfl, hb9⟩
        have HG9 := Lib.hid (Grows.trans HG8.out (show Grows w8 w9 from hb9))
        clear hb9
        go_wp2_with (fail)
        go_ret
        exact ⟨rfl, HG9.out⟩

set_option maxRecDepth 100000 in
set_option maxHeartbeats 8000000 in
theorem spoiltS_law {w : World} (A : Option Addr) (n c : Nat) (ls : List (List UInt8)) (hs : Lists w A n c ls) (hcc : c ≤ 140737488351232) (s : Nat) (_hs8 : s < 256) (a : Nat) (_ha : a < 65536) (v : Nat) (hv : v < 4294967296) :
    Calls Try.prog 5 #[.slice A n c, .int .u8 (s : Nat), .int .u16 (a : Nat), .int .u32 (v : Nat)] w fun e w' => e = .returned (.bool true) ∧ Below w.heap.size w w' := by
  by_cases hv0 : v = 0
  · subst hv0
    exact spoilt_zero A n c ls hs hcc s _hs8 a _ha
  · exact spoilt_some A n c ls hs hcc s _hs8 a _ha v hv hv0

set_option maxRecDepth 100000 in
theorem scanSpoilt_lifted (os : Os) (started : os.Started) (H : Type) (enc : TypeId × Value → H) :
    ReturnsInHanded {} Try.checked os 5 .any (Rows.scanSpoiltSpec.pre6 enc Try.prog Try.f5 Rows.scanSpoiltRow.domain false) (Rows.scanSpoiltSpec.post enc Try.prog Try.f5 false true false false) := by
  refine lift_law (C := Try.checked) H enc own started (by kernel_rfl) Try.func5
    (ChangeSpec.witness6 (enc := enc) (C := Try.checked) false ⟨#[], #[.slice none 0 0, .int .u8 0, .int .u16 0, .int .u32 0], []⟩ 16 (by kernel_rfl) (by kernel_rfl) (by kernel_rfl) (by kernel_rfl))
    laidOut (of_readable (by kernel_rfl)) rfl Try.underlying4 rfl (fun ds hd => ?_) (fun W base args ds p hval hA hsz => ?_)
  · match ds, hd with
    | [d1, d2, d3, d4], _ => rfl
  · rw [Try.params5] at hA hval hsz
    obtain ⟨v0, vs0, d0, ds0, p0, q0, hargs, rfl, rfl, h0, r0⟩ := trodAll_cons hA
    obtain ⟨v1, vs1, d1, ds1, p1, q1, rfl, rfl, rfl, h1, r1⟩ := trodAll_cons r0
    obtain ⟨v2, vs2, d2, ds2, p2, q2, rfl, rfl, rfl, h2, r2⟩ := trodAll_cons r1
    obtain ⟨v3, vs3, d3, ds3, p3, q3, rfl, rfl, rfl, h3, r3⟩ := trodAll_cons r2
    obtain ⟨rfl, rfl, rfl⟩ := trodAll_nil r3
    obtain rfl : args = #[v0, v1, v2, v3] := by cases args; simp_all
    obtain ⟨A0, n0, c0, xs0, rfl, hx0, hc0⟩ := open_rows Try.underlying34 Try.underlying22 Try.underlying5 (by kernel_rfl) (by kernel_rfl) (by kernel_rfl) (hval 0 34 v0 rfl rfl) h0 hsz (j := 0) rfl rfl
    obtain ⟨a1, rfl, _, _, w1⟩ := open_int Try.underlying5 (hval 1 5 v1 rfl rfl) h1
    have b1 := bounds_u8 w1
    obtain ⟨s1, rfl⟩ := Int.eq_ofNat_of_zero_le b1.1
    obtain ⟨a2, rfl, _, _, w2⟩ := open_int Try.underlying38 (hval 2 38 v2 rfl rfl) h2
    have b2 := bounds_u16 w2
    obtain ⟨s2, rfl⟩ := Int.eq_ofNat_of_zero_le b2.1
    obtain ⟨a3, rfl, _, _, w3⟩ := open_int Try.underlying39 (hval 3 39 v3 rfl rfl) h3
    have b3 := bounds_u32 w3
    obtain ⟨s3, rfl⟩ := Int.eq_ofNat_of_zero_le b3.1
    exact spoiltS_law A0 n0 c0 xs0 hx0 hc0 s1 (by omega) s2 (by omega) s3 (by omega)

theorem scanSpoilt_over : Rows.scanSpoiltRow.holds Try.pinned (OpenSpec.ofChange Rows.scanSpoiltSpec) :=
  OpenClaim.holds_of_wide 5 Try.f5 rfl rfl rfl rfl rfl rfl rfl ⟨rfl, rfl, rfl, rfl, rfl⟩ rfl rfl rfl rfl rfl (by kernel_rfl) Try.func5 (by kernel_rfl)
    (of_decide_eq_true (by kernel_rfl)) (by unfold Func.isWrapper; first | (rw [if_pos (by decide +kernel)]; kernel_rfl) | (rw [if_neg (by decide +kernel)]; exact ⟨rfl, rfl⟩))
    (fun os started H enc _ => scanSpoilt_lifted os started H enc)
theorem scanSpoilt_holds : Rows.ScanSpoiltSaid := scanSpoilt_over
end Go.Proofs.Ytchndjebgpibjaa
