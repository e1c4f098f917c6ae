/-
  FrameSpoilt holds of any bytes, any place and any 32 bits: a frame in which something within 32 bits has turned is not got as one of its length, whatever stands behind; no condition.
-/
import Derived.Test.YtfefghnincjlgaaHead2
import Derived.Test.YtfefghnincjlgaaFrameFacts
import Derived.Test.YtfefghnincjlgaaSpoilt
import Derived.Test.YtfefghnincjlgaaCame
import Derived.RegionTactic
import Derived.BigRegion
import Derived.IntWalk
namespace Go.Proofs.Ytfefghnincjlgaa
open Go.ChangeShapes Go.WideShapes Go.ChangeAt Go.RowKit

theorem bit_cast (v j : Nat) : ((v : Int) / 2 ^ j).tmod 2 = ((v / 2 ^ j % 2 : Nat) : Int) := by
  have e : ((v : Int) / 2 ^ j) = ((v / 2 ^ j : Nat) : Int) := by simp
  rw [e, Int.tmod_eq_emod_of_nonneg (Int.natCast_nonneg _)]
  exact (Int.natCast_emod _ _).symm
theorem bit_true (v j : Nat) (h : v / 2 ^ j % 2 = 1) : (((v : Int) / 2 ^ j).tmod 2 == 1) = true := by
  rw [bit_cast, h]; rfl
theorem bit_false (v j : Nat) (h : ¬ v / 2 ^ j % 2 = 1) : (((v : Int) / 2 ^ j).tmod 2 == 1) = false := by
  rw [bit_cast, show v / 2 ^ j % 2 = 0 by omega]; rfl

theorem shl_one (r : Nat) (h : r < 8) : (1 : Int) * 2 ^ min r 8 % 256 = ((2 ^ r : Nat) : Int) := by
  have hr : min r 8 = r := by omega
  have h2 : 2 ^ r < 2 ^ 8 := Nat.pow_lt_pow_right (by omega) h
  rw [hr, Int.one_mul, show ((2 : Int) ^ r) = ((2 ^ r : Nat) : Int) by simp]
  generalize 2 ^ r = z at *
  omega
theorem flip_bits (b : UInt8) (r : Nat) (h : r < 8) : bits BinOp.xor IntKind.u8 (b.toNat : Int) ((2 ^ r : Nat) : Int) = ((UInt8.ofNat (b.toNat ^^^ 2 ^ r)).toNat : Int) := by
  rw [flip_byte b r h]
  exact u8_xor b.toNat (2 ^ r) b.toNat_lt (Nat.pow_lt_pow_right (by omega) h)

theorem flip_cells (ys : List UInt8) (p q r z : Nat) (b b' : UInt8) (hq : p / 8 = q) (hr : p % 8 = r) (hz : 2 ^ r = z) (hb : ys.getD q 0 = b) (hb' : UInt8.ofNat (b.toNat ^^^ z) = b') :
    (ys.map byteV).set q (.int .u8 (b'.toNat : Nat)) = (flipB ys p).map byteV := by
  subst hb' hb hz hr hq
  unfold flipB
  rw [List.map_set]
  rfl


set_option maxRecDepth 100000 in
set_option maxHeartbeats 4000000 in
theorem spoilt_out {w : World} (A : Option Addr) (n c : Nat) (bs : List UInt8) (ha : Came w A n c bs) (at' : Nat) (hat : at' < 65536) (v : Nat) (hv : v < 4294967296) (B : Option Addr) (m d : Nat) (ms : List UInt8) (hb : Came w B m d ms) (hout : ¬ (1 ≤ n ∧ n ≤ 8192) ∨ 9000 < m ∨ v = 0) :
    Calls Try.prog 5 #[.slice A n c, .int .u16 (at' : Nat), .int .u32 (v : Nat), .slice B m d] w fun e w' => e = .returned (.bool true) ∧ Below w.heap.size w w' := by
  have hla := ha.bytes.len
  have hlb := hb.bytes.len
  have r1 := ha.reach
  have r2 := ha.cap
  have r3 := hb.reach
  have r4 := hb.cap
  have HA := Lib.hid ha.sl
  have HB := Lib.hid hb.sl
  clear ha hb
  by_cases hf : 1 ≤ n ∧ n ≤ 8192
  · have d9 : decide ((n : Int) + 8 < 9) = false := by simp; omega
    by_cases hm9 : 9000 < m
    · have dm : decide ((9000 : Int) < (m : Int)) = true := by simp; omega
      go_enter Try.func5, Try.ntmps5
      go_wp2_with (fail)
      refine (head2_any _).mono ?_
      rintro e w1 ⟨rfl, hb1⟩
      have HG1 := Lib.hid (show Grows w w1 from hb1)
      clear hb1
      go_wp2_with (fail)
      refine (put_any A n c bs w1 (HA.out.grow HG1.out) (by unfold maxLen; omega)).mono ?_
      rintro e w2 ⟨A2, m2, c2, rfl, hs2, hb2⟩
      have hput : putB bs = frameB bs := by unfold putB; rw [hla, if_pos hf]
      have hm := hs2.len
      rw [hput] at hs2 hm
      rw [frameB_length, hla] at hm
      subst hm
      have HS2 := Lib.hid hs2
      have HG2 := Lib.hid (Grows.trans HG1.out hb2)
      clear hs2 hb2 hput HG1
      go_wp2_with (fail)
      go_ret
      exact ⟨rfl, HG2.out⟩
    · have hv0 : v = 0 := by omega
      subst hv0
      have dm : decide ((9000 : Int) < (m : Int)) = false := by simp; omega
      go_enter Try.func5, Try.ntmps5
      go_wp2_with (fail)
      refine (head2_any _).mono ?_
      rintro e w1 ⟨rfl, hb1⟩
      have HG1 := Lib.hid (show Grows w w1 from hb1)
      clear hb1
      go_wp2_with (fail)
      refine (put_any A n c bs w1 (HA.out.grow HG1.out) (by unfold maxLen; omega)).mono ?_
      rintro e w2 ⟨A2, m2, c2, rfl, hs2, hb2⟩
      have hput : putB bs = frameB bs := by unfold putB; rw [hla, if_pos hf]
      have hm := hs2.len
      rw [hput] at hs2 hm
      rw [frameB_length, hla] at hm
      subst hm
      have HS2 := Lib.hid hs2
      have HG2 := Lib.hid (Grows.trans HG1.out hb2)
      clear hs2 hb2 hput HG1
      go_wp2_with (fail)
      go_ret
      exact ⟨rfl, HG2.out⟩
  · clear hout
    go_enter Try.func5, Try.ntmps5
    go_wp2_with (fail)
    refine (head2_any _).mono ?_
    rintro e w1 ⟨rfl, hb1⟩
    have HG1 := Lib.hid (show Grows w w1 from hb1)
    clear hb1
    go_wp2_with (fail)
    refine (put_any A n c bs w1 (HA.out.grow HG1.out) (by unfold maxLen; omega)).mono ?_
    rintro e w2 ⟨A2, m2, c2, rfl, hs2, hb2⟩
    have hput : putB bs = [] := by unfold putB; rw [hla, if_neg hf]
    have hm := hs2.len
    rw [hput] at hs2 hm
    change 0 = m2 at hm
    subst hm
    have HS2 := Lib.hid hs2
    have HG2 := Lib.hid (Grows.trans HG1.out hb2)
    clear hs2 hb2 hput HG1
    go_wp2_with (fail)
    go_ret
    exact ⟨rfl, HG2.out⟩

set_option maxRecDepth 100000 in
set_option maxHeartbeats 4000000 in
theorem spoilt_in {w : World} (A : Option Addr) (n c : Nat) (bs : List UInt8) (ha : Came w A n c bs) (at' : Nat) (hat : at' < 65536) (v : Nat) (hv : v < 4294967296) (B : Option Addr) (m d : Nat) (ms : List UInt8) (hb : Came w B m d ms) (hf : 1 ≤ n ∧ n ≤ 8192) (hm9 : m ≤ 9000) (hv0 : v ≠ 0) :
    Calls Try.prog 5 #[.slice A n c, .int .u16 (at' : Nat), .int .u32 (v : Nat), .slice B m d] w fun e w' => e = .returned (.bool true) ∧ Below w.heap.size w w' := by
  have hla := ha.bytes.len
  have hlb := hb.bytes.len
  have r1 := ha.reach
  have r2 := ha.cap
  have r3 := hb.reach
  have r4 := hb.cap
  have HA := Lib.hid ha.sl
  have HB := Lib.hid hb.sl
  clear ha hb
  have d9 : decide ((n : Int) + 8 < 9) = false := by simp; omega
  have dm : decide ((9000 : Int) < (m : Int)) = false := by simp; omega
  have dv : ((v : Int) == 0) = false := by simp; omega
  have hK0 : at' % (8 * (n + 8) - 31) + 32 ≤ 8 * (n + 8) := by have := Nat.mod_lt at' (show 0 < 8 * (n + 8) - 31 by omega); omega
  have hK : (at' : Int).tmod (8 * ((n : Int) + 8) - 31) = ((at' % (8 * (n + 8) - 31) : Nat) : Int) := by
    have e : ((8 * (n + 8) - 31 : Nat) : Int) = 8 * ((n : Int) + 8) - 31 := by omega
    rw [← e, Int.tmod_eq_emod_of_nonneg (by omega)]
    exact (Int.natCast_emod _ _).symm
  generalize at' % (8 * (n + 8) - 31) = K at *
  go_enter Try.func5, Try.ntmps5
  go_wp2_with (fail)
  refine (head2_any _).mono ?_
  rintro e w1 ⟨rfl, hb1⟩
  have HG1 := Lib.hid (show Grows w w1 from hb1)
  clear hb1
  go_wp2_with (fail)
  refine (put_any A n c bs w1 (HA.out.grow HG1.out) (by unfold maxLen; omega)).mono ?_
  rintro e w2 ⟨A2, m2, c2, rfl, hs2, hb2⟩
  have hput : putB bs = frameB bs := by unfold putB; rw [hla, if_pos hf]
  have hm := hs2.len
  rw [hput] at hs2 hm
  rw [frameB_length, hla] at hm
  subst hm
  have HS2 := Lib.hid hs2
  have HG2 := Lib.hid (Grows.trans HG1.out hb2)
  clear hs2 hb2 hput HG1
  go_wp2_with (first
    | (at_builtin
       refine list_append_sl rfl (.tmp 40) (.tmp 41) rfl rfl (owned_none w2) (A := A2) (m := n + 8) (c := c2) rfl (HS2.out.alloc _) (n + 8) (by omega) (frameB bs) rfl (by omega) (le_alloc _ _) ?_
       intro A3 c3 w3 hown3 hb3
       have HOWN3 := Lib.hid hown3
       have HB3 := Lib.hid (Below.trans ((Below.refl _ w2).alloc (Nat.le_refl _) _) hb3)
       have HM3 := Lib.hid (HB.out.grow (Grows.trans HG2.out (Below.trans ((Below.refl _ w2).alloc (Nat.le_refl _) _) hb3)))
       clear hown3 hb3)
    | (at_builtin
       refine list_append_sl rfl (.tmp 42) (.tmp 43) rfl rfl HOWN3.out (A := B) (m := m) (c := d) rfl HM3.out (n + 8 + m) rfl (frameB bs ++ ms) rfl (by omega) HB3.out.size ?_
       intro A4 c4 w4 hown4 hb4
       obtain ⟨g, cap, hform, hgB, _⟩ := hown4.form (by omega)
       injection hform with hA1 _ hcap1
       subst hA1 hcap1
       have HO := Lib.hid hown4
       have HB4 := Lib.hid (HB3.out.trans hb4)
       clear hown4 hb4))
  have hpl := frameB_length bs
  have hzl : (frameB bs ++ ms).length = n + 8 + m := by rw [List.length_append, frameB_length, hla, hlb]
  have hlong := spoilt_told bs ms (by omega) (by omega) K v
  have hshort := spoilt_not bs ms (by omega) (by omega) K v
  rw [hla] at hlong hshort
  have HLO := Lib.hid hlong
  have HSH := Lib.hid hshort
  have HKK := Lib.hid hK0
  have HZL := Lib.hid hzl
  clear hlong hshort hpl hzl
  generalize frameB bs ++ ms = zs at *
  generalize hNe : n + 8 + m = N at *
  have hN1 : N ≤ 20000 := by omega
  have hN2 : n + 8 ≤ N := by omega
  have HNE := Lib.hid hNe
  clear hNe
  go_loopw [13] (fun i wr => ∃ j : Nat, j ≤ 32 ∧ i = .int .i64 j ∧ wr.ownsRow w2.heap.size 5 1 (.slice (some ⟨g, 0, none⟩) N c4) N ((burstB zs K v j).map byteV) ∧ Below w2.heap.size w2 wr) (fun i _ => 32 - (intOf i).toNat)
  case atStart => exact ⟨0, by omega, rfl, HO.out, HB4.out⟩
  case round =>
    obtain ⟨j, hj, rfl, ho, hbr⟩ := hrel
    have HOR := Lib.hid ho
    have HBR := Lib.hid hbr
    clear ho hbr
    by_cases hlt : j < 32
    · have hnext : burstB zs K v (j + 1) = if v / 2 ^ j % 2 = 1 then flipB (burstB zs K v j) (K + j) else burstB zs K v j := rfl
      by_cases hbit : v / 2 ^ j % 2 = 1
      · rw [if_pos hbit] at hnext
        have htest := bit_true v j hbit
        have HN := Lib.hid hnext
        clear hnext hbit
        have hlen := burstB_length zs K v j
        generalize burstB zs K v j = ys at *
        have hys : ys.length = N := by rw [hlen]; exact HZL.out
        have hq0 : (K + j) / 8 < N := by omega
        have hcell : wr.cell? ⟨g, (K + j) / 8, none⟩ = some (.int .u8 ((ys.getD ((K + j) / 8) 0).toNat : Nat)) := by
          rw [HOR.out.cellAt _ (by omega), List.getElem?_map, List.getElem?_eq_getElem (by omega)]
          simp [byteV, show (K + j) / 8 < ys.length by omega]
        have hfree : wr.frozen? ⟨g, (K + j) / 8, none⟩ = false := HOR.out.frozenAt _
        have HYS := Lib.hid hys
        clear hys hlen
        have hp : (K : Int) + (j : Int) = ((K + j : Nat) : Int) := by omega
        have hwp : IntKind.i64.wrap ((K : Int) + (j : Int)) = ((K + j : Nat) : Int) := by rw [hp]; exact IntWalk.i64_in _ (by omega)
        have hwp2 : IntKind.i64.wrap ((K + j : Nat) : Int) = ((K + j : Nat) : Int) := IntWalk.i64_in _ (by omega)
        have hq1 : ((K + j : Nat) : Int) / 8 = (((K + j) / 8 : Nat) : Int) := by omega
        have hr1 : ((K + j : Nat) : Int) % 8 = (((K + j) % 8 : Nat) : Int) := by omega
        have hq2 : ((K + j : Nat) : Int).tdiv 8 = (((K + j) / 8 : Nat) : Int) := by rw [Int.tdiv_eq_ediv_of_nonneg (by omega), hq1]
        have hr2 : ((K + j : Nat) : Int).tmod 8 = (((K + j) % 8 : Nat) : Int) := by rw [Int.tmod_eq_emod_of_nonneg (by omega), hr1]
        have hr0 : (K + j) % 8 < 8 := by omega
        generalize hqe : (K + j) / 8 = q at *
        generalize hre : (K + j) % 8 = r at *
        generalize hpe : K + j = p at *
        have HPE := Lib.hid hpe
        have HQE := Lib.hid hqe
        have HRE := Lib.hid hre
        clear hpe hqe hre
        have bq0 : (0 : Int) ≤ (q : Int) := by omega
        have bq1 : (q : Int) < (N : Int) := by omega
        have br0 : (0 : Int) ≤ (r : Int) := by omega
        have br1 : (r : Int) < 8 := by omega
        have hz2 : 2 ^ r < 2 ^ 8 := Nat.pow_lt_pow_right (by omega) hr0
        have hze : (2 : Int) ^ r = ((2 ^ r : Nat) : Int) := by simp
        have hzw : IntKind.u8.wrap ((2 ^ r : Nat) : Int) = ((2 ^ r : Nat) : Int) := by rw [IntKind.wrap_u8']; generalize 2 ^ r = z at *; omega
        have hwq : IntKind.i64.wrap (q : Int) = (q : Int) := IntWalk.i64_in _ (by omega)
        generalize hye : ys.getD q 0 = b at *
        have hxb := flip_bits b r hr0
        generalize hzz : 2 ^ r = z at *
        have HZZ := Lib.hid hzz
        clear hzz hz2
        generalize hbe : UInt8.ofNat (b.toNat ^^^ z) = b' at *
        have HBE := Lib.hid hbe
        clear hbe
        have HYE := Lib.hid hye
        clear hye
        go_wp2_with (fail)
        go_region
        go_wp2_with (fail)
        go_roundw
        case rel =>
          refine ⟨j + 1, by omega, by go_num, ?_, (HBR.out.setCell (by simpa using hgB) _).drew⟩
          have hs := (HOR.out.stored q (.int .u8 (b'.toNat : Nat))).1
          rw [flip_cells ys p q r z b b' HQE.out HRE.out HZZ.out HYE.out HBE.out] at hs
          rw [HN.out]
          exact hs.drew
        case measure => simp [intOf]; omega
      · rw [if_neg hbit] at hnext
        have htest := bit_false v j hbit
        have HN := Lib.hid hnext
        clear hnext hbit
        go_wp2_with (fail)
        go_roundw
        case rel => exact ⟨j + 1, by omega, by go_num, by rw [HN.out]; exact HOR.out, HBR.out⟩
        case measure => simp [intOf]; omega
    · obtain rfl : j = 32 := by omega
      have HG5 := Lib.hid (Grows.trans HG2.out HBR.out)
      have hsl := Sl.owned HOR.out
      have HSL := Lib.hid hsl
      have HVV := Lib.hid hv0
      clear hsl
      by_cases hK32 : 32 ≤ K
      · have dk : decide ((32 : Int) ≤ (K : Int)) = true := by simp; omega
        go_wp2_with (fail)
        refine (first_any (some ⟨g, 0, none⟩) N c4 _ wr HSL.out (by omega)).mono ?_
        rw [HLO.out hK32 HKK.out hv HVV.out]
        rintro e w6 ⟨A6, m6, c6, rfl, hs6, hb6⟩
        have hl6 := hs6.len
        change 0 = m6 at hl6
        subst hl6
        have HG6 := Lib.hid (Grows.trans HG5.out hb6)
        clear hs6 hb6
        go_wp2_with (fail)
        go_ret
        exact ⟨rfl, HG6.out⟩
      · have dk : decide ((32 : Int) ≤ (K : Int)) = false := by simp; omega
        go_wp2_with (fail)
        refine (first_any (some ⟨g, 0, none⟩) N c4 _ wr HSL.out (by omega)).mono ?_
        have hsh := HSH.out HKK.out hv HVV.out
        generalize firstB (burstB zs K v 32) = r at *
        obtain ⟨y, k, er⟩ := r
        rintro e w6 ⟨A6, m6, c6, rfl, hs6, hb6⟩
        have HG6 := Lib.hid (Grows.trans HG5.out hb6)
        clear hs6 hb6
        dsimp only at hsh
        by_cases her : er = 0
        · subst her
          have hkn : ((k : Int) == (n : Int) + 8) = false := by simp; omega
          have hkn2 : ((k : Int) != (n : Int) + 8) = true := by simp [bne]; omega
          clear hsh
          go_wp2_with (fail)
          go_ret
          exact ⟨rfl, HG6.out⟩
        · have hne : ((er : Int) == 0) = false := by simp; omega
          clear hsh
          go_wp2_with (fail)
          go_ret
          exact ⟨rfl, HG6.out⟩

theorem spoilt_law {w : World} (A : Option Addr) (n c : Nat) (bs : List UInt8) (ha : Came w A n c bs) (at' : Nat) (hat : at' < 65536) (v : Nat) (hv : v < 4294967296) (B : Option Addr) (m d : Nat) (ms : List UInt8) (hb : Came w B m d ms) :
    Calls Try.prog 5 #[.slice A n c, .int .u16 (at' : Nat), .int .u32 (v : Nat), .slice B m d] w fun e w' => e = .returned (.bool true) ∧ Below w.heap.size w w' := by
  by_cases h : (1 ≤ n ∧ n ≤ 8192) ∧ m ≤ 9000 ∧ v ≠ 0
  · exact spoilt_in A n c bs ha at' hat v hv B m d ms hb h.1 h.2.1 h.2.2
  · exact spoilt_out A n c bs ha at' hat v hv B m d ms hb (by omega)

set_option maxRecDepth 100000 in
theorem frameSpoilt_lifted (os : Os) (started : os.Started) (H : Type) (enc : TypeId × Value → H) :
    ReturnsInHanded {} Try.checked os 5 .any (Rows.frameSpoiltSpec.pre6 enc Try.prog Try.f5 Rows.frameSpoiltRow.domain false) (Rows.frameSpoiltSpec.post enc Try.prog Try.f5 false true false false) := by
  refine lift_law (C := Try.checked) H enc own started (by kernel_rfl) Try.func5
    (ChangeSpec.witness6 (enc := enc) (C := Try.checked) false ⟨#[], #[.slice none 0 0, .int .u16 0, .int .u32 0, .slice none 0 0], []⟩ 16 (by kernel_rfl) (by kernel_rfl) (by kernel_rfl) (by kernel_rfl))
    laidOut (of_readable (by kernel_rfl)) rfl Try.underlying4 rfl (fun ds hd => ?_) (fun W base args ds p hval hA hsz => ?_)
  · match ds, hd with
    | [d1, d2, d3, d4], _ => rfl
  · rw [Try.params5] at hA hval hsz
    obtain ⟨v0, vs0, d0, ds0, p0, q0, hargs, rfl, rfl, h0, r0⟩ := trodAll_cons hA
    obtain ⟨v1, vs1, d1, ds1, p1, q1, rfl, rfl, rfl, h1, r1⟩ := trodAll_cons r0
    obtain ⟨v2, vs2, d2, ds2, p2, q2, rfl, rfl, rfl, h2, r2⟩ := trodAll_cons r1
    obtain ⟨v3, vs3, d3, ds3, p3, q3, rfl, rfl, rfl, h3, r3⟩ := trodAll_cons r2
    obtain ⟨rfl, rfl, rfl⟩ := trodAll_nil r3
    obtain rfl : args = #[v0, v1, v2, v3] := by cases args; simp_all
    obtain ⟨A0, n0, c0, xs0, rfl, hx0⟩ := open_bytes Try.underlying22 Try.underlying5 (by kernel_rfl) (by kernel_rfl) (hval 0 22 v0 rfl rfl) h0 hsz (j := 0) rfl rfl
    obtain ⟨a1, rfl, _, _, w1⟩ := open_int Try.underlying31 (hval 1 31 v1 rfl rfl) h1
    have b1 := bounds_u16 w1
    obtain ⟨s1, rfl⟩ := Int.eq_ofNat_of_zero_le b1.1
    obtain ⟨a2, rfl, _, _, w2⟩ := open_int Try.underlying32 (hval 2 32 v2 rfl rfl) h2
    have b2 := bounds_u32 w2
    obtain ⟨s2, rfl⟩ := Int.eq_ofNat_of_zero_le b2.1
    obtain ⟨A3, n3, c3, xs3, rfl, hx3⟩ := open_bytes Try.underlying22 Try.underlying5 (by kernel_rfl) (by kernel_rfl) (hval 3 22 v3 rfl rfl) h3 hsz (j := 3) rfl rfl
    exact spoilt_law A0 n0 c0 xs0 hx0 s1 (by omega) s2 (by omega) A3 n3 c3 xs3 hx3

theorem frameSpoilt_over : Rows.frameSpoiltRow.holds Try.pinned (OpenSpec.ofChange Rows.frameSpoiltSpec) :=
  OpenClaim.holds_of_wide 5 Try.f5 rfl rfl rfl rfl rfl rfl rfl ⟨rfl, rfl, rfl, rfl, rfl⟩ rfl rfl rfl rfl rfl (by kernel_rfl) Try.func5 (by kernel_rfl)
    (of_decide_eq_true (by kernel_rfl)) (by unfold Func.isWrapper; first | (rw [if_pos (by decide +kernel)]; kernel_rfl) | (rw [if_neg (by decide +kernel)]; exact ⟨rfl, rfl⟩))
    (fun os started H enc _ => frameSpoilt_lifted os started H enc)
theorem frameSpoilt_holds : Rows.FrameSpoiltSaid := frameSpoilt_over

end Go.Proofs.Ytfefghnincjlgaa
