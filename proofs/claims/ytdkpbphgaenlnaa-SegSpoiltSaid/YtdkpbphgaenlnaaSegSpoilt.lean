/-
  Statement SegSpoilt: a record that has turned within 32 bits behind its frame's length is ErrCorrupt at its place; all others are as they were. Any list of records, any numbers, no condition.
-/
import Derived.Test.YtdkpbphgaenlnaaMS
import Derived.Test.YtdkpbphgaenlnaaMT
import Derived.Test.YtdkpbphgaenlnaaMG
import Derived.Test.YtdkpbphgaenlnaaWalkBits
import Derived.ProofKit
import Derived.ChangeOld
namespace Go.Proofs.Ytdkpbphgaenlnaa
open Go.ChangeShapes Go.WideShapes Go.ChangeAt Go.RowKit
set_option linter.unusedSimpArgs false
set_option linter.unusedVariables false
attribute [local irreducible] wpF
theorem found_order {rs us bs us2 bs2 : List Rc} {r r2 : Rc} (h : rs = us ++ r :: bs) (h2 : rs = us2 ++ r2 :: bs2) (hl : us.length < us2.length) : (bytesL us).length + (frS r).length ≤ (bytesL us2).length := by
  have e1 : us2.take (us.length + 1) = us ++ [r] := by
    have g1 : rs.take (us.length + 1) = us ++ [r] := by rw [h, List.take_append, List.take_of_length_le (by omega)]; simp
    have g2 : rs.take (us.length + 1) = us2.take (us.length + 1) := by rw [h2, List.take_append_of_le_length (by omega)]
    rw [← g2, g1]
  have e2 := bytesL_take us2 (us.length + 1)
  rw [e1, bytesL_append] at e2
  have e3 : (bytesL [r]).length = (frS r).length := by
    show (putB (putR r) ++ []).length = _
    rw [List.append_nil]
    rfl
  omega
set_option maxHeartbeats 16000000 in
set_option maxRecDepth 100000 in
theorem nm1 : (⟨(nmS 1).toArray⟩ : ByteArray) = ⟨#[115, 48, 48, 48, 48, 48, 48, 48, 49]⟩ := by kernel_rfl
set_option maxHeartbeats 16000000 in
set_option maxRecDepth 100000 in
theorem segSpoilt_law (w : World) (A0 : Option Addr) (n0 c0 : Nat) (ls : List Rc) (hl : Recs w A0 n0 c0 ls) (wh : Int) (hwh : 0 ≤ wh ∧ wh ≤ 255) (pl : Int) (hpl : 0 ≤ pl ∧ pl ≤ 65535) (zz : Int) (hzz : 0 ≤ zz ∧ zz ≤ 4294967295) :
    Calls Try.prog 8 #[.slice A0 n0 c0, .int .u8 wh, .int .u16 pl, .int .u32 zz] w fun e w' => e = .returned (.bool true) ∧ Below w.heap.size w w' := by
  have HL := Lib.hid hl
  clear hl
  have hs1 : IntKind.i64.wrap wh = wh := IntWalk.i64_in _ (by omega)
  have hs2 : IntKind.i64.wrap pl = pl := IntWalk.i64_in _ (by omega)
  obtain ⟨i1, hi1, hz1, hy1, hb1⟩ := info_parts infoFnd
  have HI1 := Lib.hid (And.intro hi1 (And.intro hz1 (And.intro hy1 hb1)))
  clear hi1 hz1 hy1 hb1
  go_enter Try.func8, Try.ntmps8
  go_wp2_with (fail)
  refine (head9_any w).mono ?_
  rintro e w0 ⟨rfl, hb0⟩
  have HB0 := Lib.hid hb0
  clear hb0
  go_wp2_with (fail)
  refine (new_any w0 16777216).mono ?_
  rintro e w1 ⟨d, rfl, hn⟩
  have HD := Lib.hid (show DkIn w.heap.size w w1 d (fun _ => False) Go.Proofs.Ytdkpbphgaenlnaa.A0 from DkIn.new hn HB0.out.size HB0.out (fun k h => h.elim))
  clear hn
  by_cases h60 : n0 ≤ 60
  rotate_left 1
  · have h60' : (n0 : Int) > 60 := by omega
    go_wp2_with (fail)
    go_ret
    exact ⟨rfl, HD.out.low⟩
  have h60' : ¬ ((n0 : Int) > 60) := by omega
  by_cases hz0 : zz = 0
  · subst hz0
    go_wp2_with (fail)
    go_ret
    exact ⟨rfl, HD.out.low⟩
  have hz0b : (zz == 0) = false := by rw [beq_eq_false_iff_ne]; exact hz0
  have hz0c : (zz = 0) = False := eq_false hz0
  go_wp2_with (fail)
  refine (segMake_any w1 1 (by omega) HD.out A0ok (by omega)).mono ?_
  rintro e w2 ⟨rfl, hd, hst⟩
  have HD2 := Lib.hid (show DkIn w.heap.size w w2 d (fun _ => False) (B1 1) from hd)
  clear hd hst HD
  go_wp2_with (fail)
  go_loopw [11, 12] (fun vw vi wr => ∃ (j : Nat) (m : Dk) (A : Option Addr) (q c : Nat) (l : List (Fn × Fh)) (out : Nat → Prop), j ≤ n0 ∧ q ≤ j ∧ vw = .slice A q c ∧ vi = .int .i64 (j : Nat) ∧ Hid (DkIn w.heap.size w wr d out m) ∧ Hid (SB m 1 (rightL (ls.take j)) j) ∧ Hid (Want w.heap.size w wr out A q c l) ∧ Hid (fnsOf l = foundL (rightL (ls.take j)) 13)) (fun _ i _ => n0 - (intOf i).toNat)
  case atStart => exact ⟨0, B1 1, none, 0, 0, [], fun _ => False, Nat.zero_le _, Nat.le_refl _, rfl, rfl, HD2, Lib.hid (SB.start (by omega)), Lib.hid (Want.nil _ _ _ _), Lib.hid rfl⟩
  case round =>
    obtain ⟨j, m, A, q, c, l, out, hj, hq, rfl, rfl, HW, HSB, HWN, HFL⟩ := hrel
    clear HD2
    by_cases hlt : j < n0
    · have hlt' : (j : Int) < (n0 : Int) := by omega
      have hj0 : (0 : Int) ≤ (j : Int) := by omega
      have HK := Lib.hid (show 8202 + 8200 * (j + 1) ≤ 900000 ∧ j ≤ 200 ∧ q ≤ j ∧ j ≤ 60 by omega)
      obtain ⟨ad, o, p, rfl, hblk, hoi, hin, hcs⟩ := HL.out.spot j hlt
      obtain ⟨q0, q1, q2, q3, q4, q5, q6⟩ := rc_cells (by rw [add_block]; exact hblk) hcs HW.out.low
      have HLT := Lib.hid hlt
      obtain ⟨⟨LA, ln, lc⟩, ⟨BA, bn, bc⟩⟩ := p
      have HIN := Lib.hid (show RcIn w LA ln lc BA bn bc o from hin)
      have HCS := Lib.hid (And.intro hblk hcs)
      dsimp only at q5 q6
      have hadd := segAdd_any wr 1 o (HIN.out.grow HW.out.low) HW.out HSB.out.ok (by have := HK.out; omega)
      have hnext := rightL_take hoi
      obtain ⟨s, hs⟩ : ∃ s : ByteArray, (⟨o.key.toArray⟩ : ByteArray) = s := ⟨_, rfl⟩
      obtain ⟨k0, hk0⟩ : ∃ k, o.kind = k := ⟨_, rfl⟩
      obtain ⟨i0, hi0⟩ : ∃ k, o.id = k := ⟨_, rfl⟩
      obtain ⟨n9, hn9⟩ : ∃ k, o.no = k := ⟨_, rfl⟩
      obtain ⟨z0, hz0⟩ : ∃ k, o.size = k := ⟨_, rfl⟩
      have HEQ := Lib.hid (And.intro hk0 (And.intro hs (And.intro hi0 (And.intro hn9 hz0))))
      rw [hs, hk0, hi0, hn9, hz0] at hadd
      rw [hs] at q1
      rw [hk0] at q0
      rw [hi0] at q2
      rw [hn9] at q3
      rw [hz0] at q4
      have HADD := Lib.hid hadd
      have HNX := Lib.hid hnext
      have HCL := Lib.hid (show ∀ w', Grows w w' → w'.cell? (ad.add (j * 7)) = some (.int .i64 k0) ∧ w'.cell? { block := (ad.add (j * 7)).block, off := (ad.add (j * 7)).off + 1 } = some (.string s) ∧ w'.cell? { block := (ad.add (j * 7)).block, off := (ad.add (j * 7)).off + 2 } = some (.int .i64 i0) ∧ w'.cell? { block := (ad.add (j * 7)).block, off := (ad.add (j * 7)).off + 3 } = some (.int .i64 n9) ∧ w'.cell? { block := (ad.add (j * 7)).block, off := (ad.add (j * 7)).off + 4 } = some (.int .i64 z0) ∧ w'.cell? { block := (ad.add (j * 7)).block, off := (ad.add (j * 7)).off + 5 } = some (.slice LA ln lc) ∧ w'.cell? { block := (ad.add (j * 7)).block, off := (ad.add (j * 7)).off + 6 } = some (.slice BA bn bc) from fun w' hg => by
        have h := rc_cells (by rw [add_block]; exact HCS.out.1) HCS.out.2 hg
        rw [hs, hk0, hi0, hn9, hz0] at h
        exact h)
      clear hblk hoi hin hcs hadd hnext hs hk0 hi0 hn9 hz0
      by_cases b1 : bn ≤ 20000
      rotate_left 1
      · have b1' : (bn : Int) > 20000 := by omega
        go_wp2_with (fail)
        go_ret
        exact ⟨rfl, HW.out.low⟩
      have b1' : ¬ ((bn : Int) > 20000) := by omega
      by_cases b2 : ln ≤ 2000
      rotate_left 1
      · have b2' : (ln : Int) > 2000 := by omega
        go_wp2_with (fail)
        go_ret
        exact ⟨rfl, HW.out.low⟩
      have b2' : ¬ ((ln : Int) > 2000) := by omega
      by_cases b3 : s.size ≤ 2000
      rotate_left 1
      · have b3' : (s.size : Int) > 2000 := by omega
        go_wp2_with (fail)
        go_ret
        exact ⟨rfl, HW.out.low⟩
      have b3' : ¬ ((s.size : Int) > 2000) := by omega
      by_cases hr : RightR o
      rotate_left 1
      · obtain ⟨he, hsb⟩ := HSB.out.ill hr
        rw [if_neg hr, List.append_nil] at HNX
        rw [← HNX.out] at hsb
        rw [he] at HADD
        have HSR := Lib.hid hsb
        have HFR := Lib.hid (show fnsOf l = foundL (rightL (ls.take (j + 1))) 13 by rw [HNX.out]; exact HFL.out)
        clear he hsb hr
        go_wp2_with (fail)
        refine HADD.out.mono ?_
        rintro e w5 ⟨rfl, hd, hst⟩
        have HDR := Lib.hid hd
        have HWR := Lib.hid (HWN.out.stays hst)
        clear hd hst q0 q1 q2 q3 q4 q5 q6
        go_wp2_with (fail)
        exact ⟨⟨j + 1, _, A, q, c, l, out, HLT.out, by have := HK.out; omega, rfl, rfl, HDR, HSR, HWR, HFR⟩, less_oneS HLT.out⟩
      obtain ⟨he, hsb⟩ := HSB.out.right HK.out.2.1 hr
      rw [if_pos hr] at HNX
      rw [← HNX.out] at hsb
      have hfl : foundL (rightL (ls.take (j + 1))) 13 = foundL (rightL (ls.take j)) 13 ++ [((segB 1 (rightL (ls.take j))).length, (frS o).length, o)] := by rw [HNX.out, foundL_snoc, segB_length]
      obtain ⟨aa, haa⟩ : ∃ aa, (segB 1 (rightL (ls.take j))).length = aa := ⟨_, rfl⟩
      obtain ⟨fs, hfse⟩ : ∃ fs, (frS o).length = fs := ⟨_, rfl⟩
      rw [haa] at he hfl
      rw [hfse] at he hfl
      rw [he] at HADD
      have HSR := Lib.hid hsb
      have HFR := Lib.hid (show fnsOf (l ++ [((aa, fs, o), (LA, ln, lc), (BA, bn, bc))]) = foundL (rightL (ls.take (j + 1))) 13 by
        unfold fnsOf
        rw [List.map_append, hfl, ← HFL.out]
        rfl)
      have HFE0 := Lib.hid (show fnE ((aa, fs, o), (LA, ln, lc), (BA, bn, bc)) = [.int .i64 (aa : Nat), .int .i64 (fs : Nat), .int .i64 k0, .string s, .int .i64 i0, .int .i64 n9, .int .i64 z0, .slice LA ln lc, .slice BA bn bc] by
        unfold fnE
        dsimp only
        rw [HEQ.out.1, HEQ.out.2.1, HEQ.out.2.2.1, HEQ.out.2.2.2.1, HEQ.out.2.2.2.2])
      clear he hsb hr hfl haa hfse
      go_wp2_with (fail)
      refine HADD.out.mono ?_
      rintro e w5 ⟨rfl, hd, hst⟩
      have HD5 := Lib.hid hd
      have HW5 := Lib.hid (HWN.out.stays hst)
      obtain ⟨r0, r1, r2, r3, r4, r5, r6⟩ := HCL.out w5 HD5.out.low
      clear hd hst q0 q1 q2 q3 q4 q5 q6
      have hrow := fn_row w5 ((aa, fs, o), (LA, ln, lc), (BA, bn, bc))
      have hone := fnE_one ((aa, fs, o), (LA, ln, lc), (BA, bn, bc))
      have hfe := HFE0.out
      rw [hfe] at hrow hone
      have HFX := Lib.hid (And.intro hfe (And.intro hrow hone))
      have HOW := Lib.hid (HW5.out.grow (grows_alloc w5 (.cells #[.int .i64 (aa : Nat), .int .i64 (fs : Nat), .int .i64 k0, .string s, .int .i64 i0, .int .i64 n9, .int .i64 z0, .slice LA ln lc, .slice BA bn bc] 63)))
      have HDX := Lib.hid (HD5.out.grow (grows_alloc w5 (.cells #[.int .i64 (aa : Nat), .int .i64 (fs : Nat), .int .i64 k0, .string s, .int .i64 i0, .int .i64 n9, .int .i64 z0, .slice LA ln lc, .slice BA bn bc] 63)))
      clear hrow hone hfe
      go_wp2_with (first
        | (at_builtin
           refine list_append_at rfl (.tmp 87) (.tmp 95) 56 rfl w.heap.size 63 i1 (.agg #[.int .i64 0, .int .i64 0, .int .i64 0, .string ⟨#[]⟩, .int .i64 0, .int .i64 0, .int .i64 0, .slice none 0 0, .slice none 0 0]) 9 112 Try.underlying56 HI1.out.1 HI1.out.2.1 HI1.out.2.2.1 HI1.out.2.2.2 rfl (by decide) rfl
             HOW.out.own rfl HFX.out.2.1 (fun h => by cases h) HFX.out.2.2 (q + 1) rfl (by unfold maxLen; have := HK.out; omega) (by have := HK.out; omega) HDX.out.size ?_
           intro A9 c9 w9 hown9 hgrow9 hat9
           rw [← HFX.out.1] at hown9
           have hw9 := HOW.out.snoc (out' := fun k => out k ∨ ((w5.alloc (.cells #[.int .i64 (aa : Nat), .int .i64 (fs : Nat), .int .i64 k0, .string s, .int .i64 i0, .int .i64 n9, .int .i64 z0, .slice LA ln lc, .slice BA bn bc] 63)).heap.size ≤ k ∧ k < w9.heap.size)) (p := ((aa, fs, o), (LA, ln, lc), (BA, bn, bc))) HIN.out hown9 hat9 (fun hv => .inr ⟨Nat.le_refl _, hv⟩) (fun k hk => .inl hk)
           have HWR := Lib.hid hw9
           have HDR := Lib.hid (HDX.out.grown hgrow9 HOW.out.mine HOW.out.low)
           clear hown9 hgrow9 hat9 hw9)
        | fail)
      exact ⟨⟨j + 1, _, A9, q + 1, c9, l ++ [((aa, fs, o), (LA, ln, lc), (BA, bn, bc))], _, HLT.out, by have := HK.out; omega, rfl, rfl, HDR, HSR, HWR, HFR⟩, less_oneS HLT.out⟩
    · obtain rfl : j = n0 := by omega
      have hlt' : ¬ ((j : Int) < (j : Int)) := by omega
      rw [List.take_of_length_le (by rw [HL.out.len]; exact Nat.le_refl _)] at HSB HFL
      by_cases hq0 : q = 0
      · subst hq0
        go_wp2_with (fail)
        go_ret
        exact ⟨rfl, HW.out.low⟩
      have HK := Lib.hid (show 8202 + 8200 * j ≤ 900000 ∧ j ≤ 60 ∧ q ≤ j by omega)
      have hrr : ∀ r ∈ rightL ls, RightR r := rightL_right
      obtain ⟨rs, hrs⟩ : ∃ rs, rightL ls = rs := ⟨_, rfl⟩
      rw [hrs] at HSB HFL hrr
      have HRR := Lib.hid hrr
      clear hrs hrr
      obtain ⟨kk, hkk⟩ : ∃ kk : Nat, wh.tmod (q : Int) = (kk : Int) := ⟨(wh.tmod (q : Int)).toNat, by rw [Int.toNat_of_nonneg (Int.tmod_nonneg _ hwh.1)]⟩
      have hkq : kk < q := by
        have := Int.tmod_lt_of_pos wh (show (0 : Int) < (q : Int) by omega)
        omega
      have hfn := HWN.out.fnds HW.out.low
      obtain ⟨x, hx⟩ : ∃ x, l[kk]? = some x := ⟨_, List.getElem?_eq_getElem (by rw [HWN.out.len]; exact hkq)⟩
      obtain ⟨g, rfl, hg, kc⟩ := hfn.row.spot kk x hx
      have hxf : (foundL rs 13)[kk]? = some x.1 := by rw [← HFL.out]; unfold fnsOf; rw [List.getElem?_map, hx]; rfl
      obtain ⟨us, r, bs, hus, hul, hxe⟩ := foundL_at rs kk 13 x.1 hxf
      obtain ⟨⟨x0, x1, r1⟩, ⟨L1, a1, b1⟩, ⟨B1', d1, e1⟩⟩ := x
      dsimp only at hxe
      injection hxe with hx0 hxe
      injection hxe with hx1 hxr
      subst hxr
      have hri := HRR.out r1 (by rw [hus]; exact List.mem_append_right _ (List.mem_cons_self ..))
      have hx1b : 9 ≤ x1 ∧ x1 ≤ 8200 := by
        have h1 := put_body hri
        have h2 : (frS r1).length = (putR r1).length + 8 := by rw [frS_right hri, frameB_length]
        omega
      have hx0b : x0 + x1 ≤ (segB 1 rs).length ∧ (segB 1 rs).length ≤ 900000 := by
        have h1 := HSB.out.len
        have h2 := segB_length 1 rs
        have h3 : (bytesL rs).length = (bytesL us).length + ((frS r1).length + (bytesL bs).length) := by
          rw [hus]
          unfold bytesL
          rw [List.map_append, putL_append, List.length_append, List.map_cons]
          show _ = _ + ((putB (putR r1)).length + _)
          rw [putL, List.length_append]
        have h4 := HK.out
        omega
      have HX := Lib.hid (And.intro hus (And.intro hul (And.intro hx0 (And.intro hx1 (And.intro hri (And.intro hx1b hx0b))))))
      obtain ⟨E5, hE5⟩ : ∃ e : Int, 8 * ((x1 : Int) - 4) - 31 = e := ⟨_, rfl⟩
      obtain ⟨E6, hE6⟩ : ∃ e : Int, pl.tmod E5 = e := ⟨_, rfl⟩
      have h6a : 0 ≤ E6 := by rw [← hE6]; exact Int.tmod_nonneg _ hpl.1
      have h6b : E6 < E5 := by rw [← hE6]; exact Int.tmod_lt_of_pos pl (by omega)
      obtain ⟨KK, hKK⟩ : ∃ k : Nat, 8 * ((x0 : Int) + 4) + E6 = (k : Int) := ⟨(8 * ((x0 : Int) + 4) + E6).toNat, by rw [Int.toNat_of_nonneg (by omega)]⟩
      have HKK := Lib.hid (show 8 * (x0 + 4) ≤ KK ∧ KK + 32 ≤ 8 * (x0 + x1) by omega)
      obtain ⟨zn, hzn⟩ : ∃ n : Nat, zz = (n : Int) := ⟨zz.toNat, by omega⟩
      subst hzn
      have HZN := Lib.hid (show zn < 4294967296 ∧ zn ≠ 0 by omega)
      obtain ⟨hfl1, hsf, hsk⟩ := HSB.out.flipped (K := KK) (v := zn) (by have := HKK.out; omega) HZN.out.1
      have hfi := fun w' (hC : Grows wr w') => flip_in (nmS 1) (KK : Nat) zn (HW.out.grow hC) HSB.out.ok (by have := HK.out; omega) (by decide) (by have := HKK.out; omega) HZN.out.1 (m' := (Dk.flip m (nmS 1) (KK : Nat) zn).1) (v := true) (Prod.ext rfl hfl1)
      rw [nm1] at hfi
      have HFI := Lib.hid hfi
      have HSF := Lib.hid (And.intro hsf hsk)
      have HC2 := Lib.hid (show ∀ w', Grows wr w' → w'.cell? { block := g, off := kk * 9 } = some (.int .i64 (x0 : Nat)) ∧ w'.cell? { block := g, off := kk * 9 + 1 } = some (.int .i64 (x1 : Nat)) from fun w' hC => by
        have key : ∀ t, t < 9 → w'.cell? ⟨g, kk * 9 + t, none⟩ = (fnE ((x0, x1, r1), (L1, a1, b1), (B1', d1, e1)))[t]? := fun t ht => (hC.cell (show (⟨g, kk * 9 + t, none⟩ : Addr).block < wr.heap.size from hg)).trans (kc t ht)
        exact ⟨key 0 (by omega), key 1 (by omega)⟩)
      obtain ⟨E1, hE1⟩ : ∃ e : Int, (x0 : Int) + 4 = e := ⟨_, rfl⟩
      obtain ⟨E2, hE2⟩ : ∃ e : Int, 8 * E1 = e := ⟨_, rfl⟩
      obtain ⟨E3, hE3⟩ : ∃ e : Int, (x1 : Int) - 4 = e := ⟨_, rfl⟩
      obtain ⟨E4, hE4⟩ : ∃ e : Int, 8 * E3 = e := ⟨_, rfl⟩
      have s1 : IntKind.i64.wrap ((x0 : Int) + 4) = E1 := by rw [IntWalk.i64_in _ (by omega)]; exact hE1
      have s2 : IntKind.i64.wrap (8 * E1) = E2 := by rw [IntWalk.i64_in _ (by omega)]; exact hE2
      have s3 : IntKind.i64.wrap ((x1 : Int) - 4) = E3 := by rw [IntWalk.i64_in _ (by omega)]; exact hE3
      have s4 : IntKind.i64.wrap (8 * E3) = E4 := by rw [IntWalk.i64_in _ (by omega)]; exact hE4
      have s5 : IntKind.i64.wrap (E4 - 31) = E5 := by rw [IntWalk.i64_in _ (by omega)]; omega
      have s6 : IntKind.i64.wrap E6 = E6 := IntWalk.i64_in _ (by omega)
      have s7 : IntKind.i64.wrap (E2 + E6) = (KK : Int) := by rw [IntWalk.i64_in _ (by omega)]; omega
      have s8 : IntKind.i64.wrap (kk : Int) = (kk : Int) := IntWalk.i64_in _ (by have := HK.out; omega)
      have s5z : (E5 == 0) = false := by rw [beq_eq_false_iff_ne]; omega
      have s5n : ¬ E5 = 0 := by omega
      have hqn : ¬ (q : Int) = 0 := by omega
      have hkl : (kk : Int) < (q : Int) := by omega
      have hk0 : (0 : Int) ≤ (kk : Int) := by omega
      have HHE := Lib.hid hE6
      clear hx kc hxf hus hul hx0 hx1 hri hx1b hx0b hE1 hE2 hE3 hE4 hE5 hKK h6a h6b hfl1 hsf hsk hfi hfn hz0 hz0b hz0c
      go_wp2_with (fail)
      refine wp_region_facts_tail (E := Grows) 21 [valFact (.pointer (some ⟨d, 0, none⟩)), valFact (.slice (some ⟨g, 0, none⟩) q c), valFact (.int .i64 (kk : Nat)), valFact (.pointer (some ⟨g, kk * 9, none⟩)), valFact (.pointer (some ⟨g, kk * 9, none⟩)), valFact (.int .i64 (x0 : Nat)), valFact (.int .i64 E1), valFact (.int .i64 E2), valFact (.int .u16 pl), valFact (.int .i64 pl), valFact (.slice (some ⟨g, 0, none⟩) q c), valFact (.int .i64 (kk : Nat)), valFact (.pointer (some ⟨g, kk * 9, none⟩)), valFact (.pointer (some ⟨g, kk * 9 + 1, none⟩)), valFact (.int .i64 (x1 : Nat)), valFact (.int .i64 E3), valFact (.int .i64 E4), valFact (.int .i64 E5), valFact (.int .i64 E6), valFact (.int .i64 (KK : Nat)), valFact (.int .u32 (zn : Nat))] mixed (by kernel_rfl) (fun _ _ _ => Grows.trans) (grows_drew _) ?_
      simp only [List.take_succ_cons, List.take_zero, List.drop_succ_cons, List.drop_zero]
      refine f_val (.pointer (some ⟨d, 0, none⟩)) (by rfl) ?_ ?_
      · intro w' hC; clear hC; first | (go_simp; done)
      simp only [Act.put, List.setIfInBounds_toArray, List.set_cons_zero, List.set_cons_succ]
      refine f_val (.slice (some ⟨g, 0, none⟩) q c) (by rfl) ?_ ?_
      · intro w' hC; clear hC; first | (go_simp; done)
      simp only [Act.put, List.setIfInBounds_toArray, List.set_cons_zero, List.set_cons_succ]
      refine f_val (.int .i64 (kk : Nat)) (by rfl) ?_ ?_
      · intro w' hC; clear hC; first | (go_simp; done)
      simp only [Act.put, List.setIfInBounds_toArray, List.set_cons_zero, List.set_cons_succ]
      refine f_val (.pointer (some ⟨g, kk * 9, none⟩)) (by rfl) ?_ ?_
      · intro w' hC; clear hC; first | (go_simp; done)
      simp only [Act.put, List.setIfInBounds_toArray, List.set_cons_zero, List.set_cons_succ]
      refine f_val (.pointer (some ⟨g, kk * 9, none⟩)) (by rfl) ?_ ?_
      · intro w' hC; clear hC; first | (go_simp; done)
      simp only [Act.put, List.setIfInBounds_toArray, List.set_cons_zero, List.set_cons_succ]
      refine f_val (.int .i64 (x0 : Nat)) (by rfl) ?_ ?_
      · intro w' hC; obtain ⟨z0, z1⟩ := HC2.out w' hC; clear hC; first | (go_simp; done)
      simp only [Act.put, List.setIfInBounds_toArray, List.set_cons_zero, List.set_cons_succ]
      refine f_val (.int .i64 E1) (by rfl) ?_ ?_
      · intro w' hC; clear hC; first | (go_simp; done)
      simp only [Act.put, List.setIfInBounds_toArray, List.set_cons_zero, List.set_cons_succ]
      refine f_val (.int .i64 E2) (by rfl) ?_ ?_
      · intro w' hC; clear hC; first | (go_simp; done)
      simp only [Act.put, List.setIfInBounds_toArray, List.set_cons_zero, List.set_cons_succ]
      refine f_val (.int .u16 pl) (by rfl) ?_ ?_
      · intro w' hC; clear hC; first | (go_simp; done)
      simp only [Act.put, List.setIfInBounds_toArray, List.set_cons_zero, List.set_cons_succ]
      refine f_val (.int .i64 pl) (by rfl) ?_ ?_
      · intro w' hC; clear hC; first | (go_simp; done)
      simp only [Act.put, List.setIfInBounds_toArray, List.set_cons_zero, List.set_cons_succ]
      refine f_val (.slice (some ⟨g, 0, none⟩) q c) (by rfl) ?_ ?_
      · intro w' hC; clear hC; first | (go_simp; done)
      simp only [Act.put, List.setIfInBounds_toArray, List.set_cons_zero, List.set_cons_succ]
      refine f_val (.int .i64 (kk : Nat)) (by rfl) ?_ ?_
      · intro w' hC; clear hC; first | (go_simp; done)
      simp only [Act.put, List.setIfInBounds_toArray, List.set_cons_zero, List.set_cons_succ]
      refine f_val (.pointer (some ⟨g, kk * 9, none⟩)) (by rfl) ?_ ?_
      · intro w' hC; clear hC; first | (go_simp; done)
      simp only [Act.put, List.setIfInBounds_toArray, List.set_cons_zero, List.set_cons_succ]
      refine f_val (.pointer (some ⟨g, kk * 9 + 1, none⟩)) (by rfl) ?_ ?_
      · intro w' hC; clear hC; first | (go_simp; done)
      simp only [Act.put, List.setIfInBounds_toArray, List.set_cons_zero, List.set_cons_succ]
      refine f_val (.int .i64 (x1 : Nat)) (by rfl) ?_ ?_
      · intro w' hC; obtain ⟨z0, z1⟩ := HC2.out w' hC; clear hC; first | (go_simp; done)
      simp only [Act.put, List.setIfInBounds_toArray, List.set_cons_zero, List.set_cons_succ]
      refine f_val (.int .i64 E3) (by rfl) ?_ ?_
      · intro w' hC; clear hC; first | (go_simp; done)
      simp only [Act.put, List.setIfInBounds_toArray, List.set_cons_zero, List.set_cons_succ]
      refine f_val (.int .i64 E4) (by rfl) ?_ ?_
      · intro w' hC; clear hC; first | (go_simp; done)
      simp only [Act.put, List.setIfInBounds_toArray, List.set_cons_zero, List.set_cons_succ]
      refine f_val (.int .i64 E5) (by rfl) ?_ ?_
      · intro w' hC; clear hC; first | (go_simp; done)
      simp only [Act.put, List.setIfInBounds_toArray, List.set_cons_zero, List.set_cons_succ]
      refine f_val (.int .i64 E6) (by rfl) ?_ ?_
      · intro w' hC; clear hC; first | (go_simp; done)
      simp only [Act.put, List.setIfInBounds_toArray, List.set_cons_zero, List.set_cons_succ]
      refine f_val (.int .i64 (KK : Nat)) (by rfl) ?_ ?_
      · intro w' hC; clear hC; first | (go_simp; done)
      simp only [Act.put, List.setIfInBounds_toArray, List.set_cons_zero, List.set_cons_succ]
      refine f_val (.int .u32 (zn : Nat)) (by rfl) ?_ ?_
      · intro w' hC; clear hC; first | (go_simp; done)
      simp only [Act.put, List.setIfInBounds_toArray, List.set_cons_zero, List.set_cons_succ]
      refine wpF_end ?_
      intro w6 hC hks
      have HCw6 := Lib.hid hC
      clear hC hks
      go_wp2_with (fail)
      refine (HFI.out w6 HCw6.out).mono ?_
      rintro e w7 ⟨rfl, hd, hst⟩
      have HD7 := Lib.hid hd
      have HW7 := Lib.hid ((HWN.out.grow HCw6.out).stays hst)
      clear hd hst HFI s1 s2 s3 s4 s5 s6 s7
      go_wp2_with (fail)
      go_loopw [17] (fun vi wx => ∃ (i : Nat), i ≤ q ∧ vi = .int .i64 (i : Nat) ∧ Hid (Grows w7 wx)) (fun i _ => q - (intOf i).toNat)
      case atStart => exact ⟨0, Nat.zero_le _, rfl, Lib.hid (Grows.refl _)⟩
      case round =>
        obtain ⟨i, hi, rfl, HG⟩ := hrel
        by_cases hlt : i < q
        · have hlt' : (i : Int) < (q : Int) := by omega
          have hj0 : (0 : Int) ≤ (i : Int) := by omega
          have hwj : IntKind.i64.wrap ((i : Int) + 1) = (i : Int) + 1 := IntWalk.i64_in _ (by have := HK.out; omega)
          have hfn := HW7.out.fnds HD7.out.low
          obtain ⟨x, hx⟩ : ∃ x, l[i]? = some x := ⟨_, List.getElem?_eq_getElem (by rw [HW7.out.len]; exact hlt)⟩
          obtain ⟨g', hgg, hg, kc⟩ := hfn.row.spot i x hx
          injection hgg with hgg
          injection hgg with hgg _ _
          subst hgg
          have hrx := hfn.recs x (List.mem_of_getElem? hx)
          have hxf : (foundL rs 13)[i]? = some x.1 := by rw [← HFL.out]; unfold fnsOf; rw [List.getElem?_map, hx]; rfl
          obtain ⟨us2, r2, bs2, hrs, hal, hxe⟩ := foundL_at rs i 13 x.1 hxf
          obtain ⟨⟨y0, y1, y2⟩, ⟨L2, a2, b2⟩, ⟨B2, d2, e2⟩⟩ := x
          dsimp only at hrx hxe
          injection hxe with hy0 hxe
          injection hxe with hy1 hxr
          subst hxr
          have hry := HRR.out y2 (by rw [hrs]; exact List.mem_append_right _ (List.mem_cons_self ..))
          have hyb : y0 ≤ 900000 := by
            have h1 := HX.out.2.2.2.2.2.2.2
            rw [segB_length, hrs, bytesL_append] at h1
            omega
          have hget := segGet_any wr 1 (y0 : Nat) (HD7.out.grow HG.out) HSF.out.2 (by have := HK.out; omega) (by omega)
          have HC1 := Lib.hid (show ∀ w', Grows w7 w' → w'.cell? { block := g, off := i * 9 } = some (.int .i64 (y0 : Nat)) ∧ w'.cell? { block := g, off := i * 9 + 1 } = some (.int .i64 (y1 : Nat)) ∧ w'.cell? { block := g, off := i * 9 + 2 } = some (.int .i64 y2.kind) ∧ w'.cell? { block := g, off := i * 9 + 3 } = some (.string ⟨y2.key.toArray⟩) ∧ w'.cell? { block := g, off := i * 9 + 4 } = some (.int .i64 y2.id) ∧ w'.cell? { block := g, off := i * 9 + 5 } = some (.int .i64 y2.no) ∧ w'.cell? { block := g, off := i * 9 + 6 } = some (.int .i64 y2.size) ∧ w'.cell? { block := g, off := i * 9 + 7 } = some (.slice L2 a2 b2) ∧ w'.cell? { block := g, off := i * 9 + 8 } = some (.slice B2 d2 e2) from fun w' hC => by
            have key : ∀ t, t < 9 → w'.cell? ⟨g, i * 9 + t, none⟩ = (fnE ((y0, y1, y2), (L2, a2, b2), (B2, d2, e2)))[t]? := fun t ht => (hC.cell (show (⟨g, i * 9 + t, none⟩ : Addr).block < w7.heap.size from hg)).trans (kc t ht)
            exact ⟨key 0 (by omega), key 1 (by omega), key 2 (by omega), key 3 (by omega), key 4 (by omega), key 5 (by omega), key 6 (by omega), key 7 (by omega), key 8 (by omega)⟩)
          have HRX := Lib.hid (And.intro hrx (loc_small hry))
          have HLT := Lib.hid hlt
          have z0 := (HC1.out wr HG.out).1
          by_cases hik : i = kk
          · have hgp : (getP (Dk.flip m (nmS 1) (KK : Nat) zn).1 1 (y0 : Nat)).2 = 22 := by
              have hseg : segB 1 rs = segB 1 us2 ++ (frS y2 ++ bytesL bs2) := by
                rw [hrs]
                unfold segB bytesL frS
                rw [List.map_append, ← List.cons_append, putL_append, List.map_cons]
                rfl
              have hx0 := HX.out.2.2.1
              have hx1 := HX.out.2.2.2.1
              have heq : us2 = us ∧ y2 = r1 := by
                have h1 := HX.out.1
                rw [hrs] at h1
                have h2 := List.append_inj h1 (by rw [hal, HX.out.2.1, hik])
                exact ⟨h2.1, (List.cons.inj h2.2).1⟩
              have hrd := HSF.out.1.read
              rw [hseg] at hrd
              exact getP_spoilt hry (by rw [segB_length]; exact hy0.symm) (by have := HKK.out; rw [hy0, heq.1, ← hx0]; omega) (by have := HKK.out; rw [hy0, heq.1, ← hx0, heq.2, ← hx1]; omega) HZN.out.1 HZN.out.2 hrd
            obtain ⟨⟨y3, er⟩, hye⟩ : ∃ p, getP (Dk.flip m (nmS 1) (KK : Nat) zn).1 1 (y0 : Nat) = p := ⟨_, rfl⟩
            rw [hye] at hget hgp
            dsimp only at hget hgp
            subst hgp hik
            have HGET := Lib.hid hget
            clear hfn hx hg kc hrx hxf hrs hal hy0 hy1 hget hye hyb hry hlt
            go_wp2_with (fail)
            refine HGET.out.mono ?_
            rintro e w9 ⟨LA, ln, lc, BA, bn, bc, rfl, hin, hg5⟩
            have hm6 := Whole.made w9 59 #[.int .i64 y3.kind, .string ⟨y3.key.toArray⟩, .int .i64 y3.id, .int .i64 y3.no, .int .i64 y3.size, .slice LA ln lc, .slice BA bn bc]
            have hg6 := grows_alloc w9 (.cells #[.int .i64 y3.kind, .string ⟨y3.key.toArray⟩, .int .i64 y3.id, .int .i64 y3.no, .int .i64 y3.size, .slice LA ln lc, .slice BA bn bc] 59)
            have HIN := Lib.hid (And.intro (hin.grow hg6) hin.locs.len)
            have HM6 := Lib.hid hm6
            have HG6 := Lib.hid (Grows.trans HG.out (Grows.trans hg5 hg6))
            clear hin hg5 hg6 hm6 z0
            unfold rcV
            go_wp2_with (fail)
            obtain ⟨w10, hw6⟩ : ∃ w10, w9.alloc (.cells #[.int .i64 y3.kind, .string ⟨y3.key.toArray⟩, .int .i64 y3.id, .int .i64 y3.no, .int .i64 y3.size, .slice LA ln lc, .slice BA bn bc] 59) = w10 := ⟨_, rfl⟩
            rw [hw6] at HIN HM6 HG6
            rw [hw6]
            clear hw6
            have HC6 := Lib.hid (show ∀ w', Grows w10 w' → w'.cell? { block := w9.heap.size, off := 0 } = some (.int .i64 y3.kind) ∧ w'.cell? { block := w9.heap.size, off := 1 } = some (.string ⟨y3.key.toArray⟩) ∧ w'.cell? { block := w9.heap.size, off := 2 } = some (.int .i64 y3.id) ∧ w'.cell? { block := w9.heap.size, off := 3 } = some (.int .i64 y3.no) ∧ w'.cell? { block := w9.heap.size, off := 4 } = some (.int .i64 y3.size) ∧ w'.cell? { block := w9.heap.size, off := 5 } = some (.slice LA ln lc) ∧ w'.cell? { block := w9.heap.size, off := 6 } = some (.slice BA bn bc) from fun w' hC => by
              have hx := hC.whole HM6.out
              exact ⟨hx.cell 0, hx.cell 1, hx.cell 2, hx.cell 3, hx.cell 4, hx.cell 5, hx.cell 6⟩)
            refine wp_region_facts (E := Grows) [valFact (.int .i64 (i : Nat)), valFact (.int .i64 (i : Nat)), valFact (.bool true), valFact (.bool true), valFact (.int .i64 22), valFact (.bool false), valFact (.bool false), valFact (.bool false), valFact (.int .i64 (i : Nat)), valFact (.int .i64 (i : Nat)), valFact (.bool false), valFact (.bool false), valFact undef, valFact undef, valFact undef, valFact undef, valFact undef, valFact undef, valFact undef, valFact undef, valFact undef, valFact undef, valFact undef, valFact undef, valFact (.bool false), valFact (.bool false)] (by kernel_rfl) (by kernel_rfl) (fun _ _ _ => Grows.trans) (grows_drew _) ?_
            refine f_val (.int .i64 (i : Nat)) (by rfl) ?_ ?_
            · intro w' hC; clear hC; first | (go_simp; done)
            simp only [Act.put, List.setIfInBounds_toArray, List.set_cons_zero, List.set_cons_succ]
            refine f_val (.int .i64 (i : Nat)) (by rfl) ?_ ?_
            · intro w' hC; clear hC; first | (go_simp; done)
            simp only [Act.put, List.setIfInBounds_toArray, List.set_cons_zero, List.set_cons_succ]
            refine f_val (.bool true) (by rfl) ?_ ?_
            · intro w' hC; clear hC; first | (go_simp; done)
            simp only [Act.put, List.setIfInBounds_toArray, List.set_cons_zero, List.set_cons_succ]
            refine f_val (.bool true) (by rfl) ?_ ?_
            · intro w' hC; clear hC; first | (go_simp; done)
            simp only [Act.put, List.setIfInBounds_toArray, List.set_cons_zero, List.set_cons_succ]
            refine f_val (.int .i64 22) (by rfl) ?_ ?_
            · intro w' hC; clear hC; first | (go_simp; done)
            simp only [Act.put, List.setIfInBounds_toArray, List.set_cons_zero, List.set_cons_succ]
            refine f_val (.bool false) (by rfl) ?_ ?_
            · intro w' hC; clear hC; first | (go_simp; done)
            simp only [Act.put, List.setIfInBounds_toArray, List.set_cons_zero, List.set_cons_succ]
            refine f_val (.bool false) (by rfl) ?_ ?_
            · intro w' hC; clear hC; first | (go_simp; done)
            simp only [Act.put, List.setIfInBounds_toArray, List.set_cons_zero, List.set_cons_succ]
            refine f_val (.bool false) (by rfl) ?_ ?_
            · intro w' hC; clear hC; first | (go_simp; done)
            simp only [Act.put, List.setIfInBounds_toArray, List.set_cons_zero, List.set_cons_succ]
            refine f_val (.int .i64 (i : Nat)) (by rfl) ?_ ?_
            · intro w' hC; clear hC; first | (go_simp; done)
            simp only [Act.put, List.setIfInBounds_toArray, List.set_cons_zero, List.set_cons_succ]
            refine f_val (.int .i64 (i : Nat)) (by rfl) ?_ ?_
            · intro w' hC; clear hC; first | (go_simp; done)
            simp only [Act.put, List.setIfInBounds_toArray, List.set_cons_zero, List.set_cons_succ]
            refine f_val (.bool false) (by rfl) ?_ ?_
            · intro w' hC; clear hC; first | (go_simp; done)
            simp only [Act.put, List.setIfInBounds_toArray, List.set_cons_zero, List.set_cons_succ]
            refine f_val (.bool false) (by rfl) ?_ ?_
            · intro w' hC; clear hC; first | (go_simp; done)
            simp only [Act.put, List.setIfInBounds_toArray, List.set_cons_zero, List.set_cons_succ]
            refine f_skip (by rfl) ?_
            simp only [Act.put, List.setIfInBounds_toArray, List.set_cons_zero, List.set_cons_succ]
            refine f_skip (by rfl) ?_
            simp only [Act.put, List.setIfInBounds_toArray, List.set_cons_zero, List.set_cons_succ]
            refine f_skip (by rfl) ?_
            simp only [Act.put, List.setIfInBounds_toArray, List.set_cons_zero, List.set_cons_succ]
            refine f_skip (by rfl) ?_
            simp only [Act.put, List.setIfInBounds_toArray, List.set_cons_zero, List.set_cons_succ]
            refine f_skip (by rfl) ?_
            simp only [Act.put, List.setIfInBounds_toArray, List.set_cons_zero, List.set_cons_succ]
            refine f_skip (by rfl) ?_
            simp only [Act.put, List.setIfInBounds_toArray, List.set_cons_zero, List.set_cons_succ]
            refine f_skip (by rfl) ?_
            simp only [Act.put, List.setIfInBounds_toArray, List.set_cons_zero, List.set_cons_succ]
            refine f_skip (by rfl) ?_
            simp only [Act.put, List.setIfInBounds_toArray, List.set_cons_zero, List.set_cons_succ]
            refine f_skip (by rfl) ?_
            simp only [Act.put, List.setIfInBounds_toArray, List.set_cons_zero, List.set_cons_succ]
            refine f_skip (by rfl) ?_
            simp only [Act.put, List.setIfInBounds_toArray, List.set_cons_zero, List.set_cons_succ]
            refine f_skip (by rfl) ?_
            simp only [Act.put, List.setIfInBounds_toArray, List.set_cons_zero, List.set_cons_succ]
            refine f_skip (by rfl) ?_
            simp only [Act.put, List.setIfInBounds_toArray, List.set_cons_zero, List.set_cons_succ]
            refine f_val (.bool false) (by rfl) ?_ ?_
            · intro w' hC; clear hC; first | (go_simp; done)
            simp only [Act.put, List.setIfInBounds_toArray, List.set_cons_zero, List.set_cons_succ]
            refine f_val (.bool false) (by rfl) ?_ ?_
            · intro w' hC; clear hC; first | (go_simp; done)
            simp only [Act.put, List.setIfInBounds_toArray, List.set_cons_zero, List.set_cons_succ]
            refine wpF_end ?_
            intro w11 hC hks
            have HCw11 := Lib.hid hC
            clear hC hks
            go_wp2_with (fail)
            exact ⟨⟨i + 1, HLT.out, rfl, Lib.hid (Grows.trans HG6.out HCw11.out)⟩, less_oneS HLT.out⟩
          · have hgp : getP (Dk.flip m (nmS 1) (KK : Nat) zn).1 1 (y0 : Nat) = (y2, 0) := by
              have hrd := HSF.out.1.read
              have hkk2 := HKK.out
              have hx0 := HX.out.2.2.1
              have hx1 := HX.out.2.2.2.1
              have hul := HX.out.2.1
              have hus := HX.out.1
              have hoff : 8 * (13 + (bytesL us2).length + (frS y2).length) ≤ KK ∨ KK + 32 ≤ 8 * (13 + (bytesL us2).length) := by
                rcases Nat.lt_or_ge i kk with h | h
                · have := found_order hrs hus (by omega)
                  omega
                · have := found_order hus hrs (by omega)
                  omega
              rw [hy0]
              rw [hrs] at hrd
              exact getP_off hry HZN.out.1 hoff hrd
            rw [hgp] at hget
            have hikb : ((i : Int) == (kk : Int)) = false := by rw [beq_eq_false_iff_ne]; omega
            have hikc : ((i : Int) != (kk : Int)) = true := by rw [bne_iff_ne]; omega
            have HGET := Lib.hid hget
            clear hfn hx hg kc hrx hxf hrs hal hy0 hy1 hget hgp hyb hry hlt
            go_wp2_with (fail)
            refine HGET.out.mono ?_
            rintro e w9 ⟨LA, ln, lc, BA, bn, bc, rfl, hin, hg5⟩
            have hm6 := Whole.made w9 59 #[.int .i64 y2.kind, .string ⟨y2.key.toArray⟩, .int .i64 y2.id, .int .i64 y2.no, .int .i64 y2.size, .slice LA ln lc, .slice BA bn bc]
            have hg6 := grows_alloc w9 (.cells #[.int .i64 y2.kind, .string ⟨y2.key.toArray⟩, .int .i64 y2.id, .int .i64 y2.no, .int .i64 y2.size, .slice LA ln lc, .slice BA bn bc] 59)
            have HIN := Lib.hid (And.intro (hin.grow hg6) hin.locs.len)
            have HM6 := Lib.hid hm6
            have HG6 := Lib.hid (Grows.trans HG.out (Grows.trans hg5 hg6))
            clear hin hg5 hg6 hm6 z0
            unfold rcV
            go_wp2_with (fail)
            obtain ⟨w10, hw6⟩ : ∃ w10, w9.alloc (.cells #[.int .i64 y2.kind, .string ⟨y2.key.toArray⟩, .int .i64 y2.id, .int .i64 y2.no, .int .i64 y2.size, .slice LA ln lc, .slice BA bn bc] 59) = w10 := ⟨_, rfl⟩
            rw [hw6] at HIN HM6 HG6
            rw [hw6]
            clear hw6
            have HC6 := Lib.hid (show ∀ w', Grows w10 w' → w'.cell? { block := w9.heap.size, off := 0 } = some (.int .i64 y2.kind) ∧ w'.cell? { block := w9.heap.size, off := 1 } = some (.string ⟨y2.key.toArray⟩) ∧ w'.cell? { block := w9.heap.size, off := 2 } = some (.int .i64 y2.id) ∧ w'.cell? { block := w9.heap.size, off := 3 } = some (.int .i64 y2.no) ∧ w'.cell? { block := w9.heap.size, off := 4 } = some (.int .i64 y2.size) ∧ w'.cell? { block := w9.heap.size, off := 5 } = some (.slice LA ln lc) ∧ w'.cell? { block := w9.heap.size, off := 6 } = some (.slice BA bn bc) from fun w' hC => by
              have hx := hC.whole HM6.out
              exact ⟨hx.cell 0, hx.cell 1, hx.cell 2, hx.cell 3, hx.cell 4, hx.cell 5, hx.cell 6⟩)
            have HC1 := Lib.hid (fun w' (hC : Grows w10 w') => HC1.out w' (Grows.trans HG6.out hC))
            have hsa := fun w' (hC : Grows w10 w') => same_any y2 y2 LA ln lc BA bn bc L2 a2 b2 B2 d2 e2 w' (HIN.out.1.grow hC) (HRX.out.1.grow (Grows.trans HG6.out hC)) (by have h1 := HIN.out.2; have h2 := HRX.out.2; omega)
            simp only [decide_true] at hsa
            have HSA := Lib.hid hsa
            clear hsa
            refine wp_region_facts (E := Grows) [valFact (.int .i64 (i : Nat)), valFact (.int .i64 (kk : Nat)), valFact (.bool false), valFact (.bool false), valFact undef, valFact undef, valFact (.bool false), valFact (.bool false), valFact (.int .i64 (i : Nat)), valFact (.int .i64 (kk : Nat)), valFact (.bool true), valFact (.bool true), valFact (.int .i64 0), valFact (.bool false), valFact (.bool false), valFact (.agg #[.int .i64 y2.kind, .string ⟨y2.key.toArray⟩, .int .i64 y2.id, .int .i64 y2.no, .int .i64 y2.size, .slice LA ln lc, .slice BA bn bc]), valFact (.slice (some ⟨g, 0, none⟩) q c), valFact (.int .i64 (i : Nat)), valFact (.pointer (some ⟨g, i * 9, none⟩)), valFact (.pointer (some ⟨g, i * 9 + 2, none⟩)), valFact (.agg #[.int .i64 y2.kind, .string ⟨y2.key.toArray⟩, .int .i64 y2.id, .int .i64 y2.no, .int .i64 y2.size, .slice L2 a2 b2, .slice B2 d2 e2]), valFact (.bool true), valFact (.bool false), valFact (.bool false), valFact (.bool false), valFact (.bool false)] (by kernel_rfl) (by kernel_rfl) (fun _ _ _ => Grows.trans) (grows_drew _) ?_
            refine f_val (.int .i64 (i : Nat)) (by rfl) ?_ ?_
            · intro w' hC; clear hC; first | (go_simp; done)
            simp only [Act.put, List.setIfInBounds_toArray, List.set_cons_zero, List.set_cons_succ]
            refine f_val (.int .i64 (kk : Nat)) (by rfl) ?_ ?_
            · intro w' hC; clear hC; first | (go_simp; done)
            simp only [Act.put, List.setIfInBounds_toArray, List.set_cons_zero, List.set_cons_succ]
            refine f_val (.bool false) (by rfl) ?_ ?_
            · intro w' hC; clear hC; first | (go_simp; done)
            simp only [Act.put, List.setIfInBounds_toArray, List.set_cons_zero, List.set_cons_succ]
            refine f_val (.bool false) (by rfl) ?_ ?_
            · intro w' hC; clear hC; first | (go_simp; done)
            simp only [Act.put, List.setIfInBounds_toArray, List.set_cons_zero, List.set_cons_succ]
            refine f_skip (by rfl) ?_
            simp only [Act.put, List.setIfInBounds_toArray, List.set_cons_zero, List.set_cons_succ]
            refine f_skip (by rfl) ?_
            simp only [Act.put, List.setIfInBounds_toArray, List.set_cons_zero, List.set_cons_succ]
            refine f_val (.bool false) (by rfl) ?_ ?_
            · intro w' hC; clear hC; first | (go_simp; done)
            simp only [Act.put, List.setIfInBounds_toArray, List.set_cons_zero, List.set_cons_succ]
            refine f_val (.bool false) (by rfl) ?_ ?_
            · intro w' hC; clear hC; first | (go_simp; done)
            simp only [Act.put, List.setIfInBounds_toArray, List.set_cons_zero, List.set_cons_succ]
            refine f_val (.int .i64 (i : Nat)) (by rfl) ?_ ?_
            · intro w' hC; clear hC; first | (go_simp; done)
            simp only [Act.put, List.setIfInBounds_toArray, List.set_cons_zero, List.set_cons_succ]
            refine f_val (.int .i64 (kk : Nat)) (by rfl) ?_ ?_
            · intro w' hC; clear hC; first | (go_simp; done)
            simp only [Act.put, List.setIfInBounds_toArray, List.set_cons_zero, List.set_cons_succ]
            refine f_val (.bool true) (by rfl) ?_ ?_
            · intro w' hC; clear hC; first | (go_simp; done)
            simp only [Act.put, List.setIfInBounds_toArray, List.set_cons_zero, List.set_cons_succ]
            refine f_val (.bool true) (by rfl) ?_ ?_
            · intro w' hC; clear hC; first | (go_simp; done)
            simp only [Act.put, List.setIfInBounds_toArray, List.set_cons_zero, List.set_cons_succ]
            refine f_val (.int .i64 0) (by rfl) ?_ ?_
            · intro w' hC; clear hC; first | (go_simp; done)
            simp only [Act.put, List.setIfInBounds_toArray, List.set_cons_zero, List.set_cons_succ]
            refine f_val (.bool false) (by rfl) ?_ ?_
            · intro w' hC; clear hC; first | (go_simp; done)
            simp only [Act.put, List.setIfInBounds_toArray, List.set_cons_zero, List.set_cons_succ]
            refine f_val (.bool false) (by rfl) ?_ ?_
            · intro w' hC; clear hC; first | (go_simp; done)
            simp only [Act.put, List.setIfInBounds_toArray, List.set_cons_zero, List.set_cons_succ]
            refine f_val (.agg #[.int .i64 y2.kind, .string ⟨y2.key.toArray⟩, .int .i64 y2.id, .int .i64 y2.no, .int .i64 y2.size, .slice LA ln lc, .slice BA bn bc]) (by rfl) ?_ ?_
            · intro w' hC; obtain ⟨z0, z1, z2, z3, z4, z5, z6⟩ := HC6.out w' hC; clear hC; first | (go_simp; done)
            simp only [Act.put, List.setIfInBounds_toArray, List.set_cons_zero, List.set_cons_succ]
            refine f_val (.slice (some ⟨g, 0, none⟩) q c) (by rfl) ?_ ?_
            · intro w' hC; clear hC; first | (go_simp; done)
            simp only [Act.put, List.setIfInBounds_toArray, List.set_cons_zero, List.set_cons_succ]
            refine f_val (.int .i64 (i : Nat)) (by rfl) ?_ ?_
            · intro w' hC; clear hC; first | (go_simp; done)
            simp only [Act.put, List.setIfInBounds_toArray, List.set_cons_zero, List.set_cons_succ]
            refine f_val (.pointer (some ⟨g, i * 9, none⟩)) (by rfl) ?_ ?_
            · intro w' hC; clear hC; first | (go_simp; done)
            simp only [Act.put, List.setIfInBounds_toArray, List.set_cons_zero, List.set_cons_succ]
            refine f_val (.pointer (some ⟨g, i * 9 + 2, none⟩)) (by rfl) ?_ ?_
            · intro w' hC; clear hC; first | (go_simp; done)
            simp only [Act.put, List.setIfInBounds_toArray, List.set_cons_zero, List.set_cons_succ]
            refine f_val (.agg #[.int .i64 y2.kind, .string ⟨y2.key.toArray⟩, .int .i64 y2.id, .int .i64 y2.no, .int .i64 y2.size, .slice L2 a2 b2, .slice B2 d2 e2]) (by rfl) ?_ ?_
            · intro w' hC; obtain ⟨z0, z1, z2, z3, z4, z5, z6, z7, z8⟩ := HC1.out w' hC; clear hC; first | (go_simp; done)
            simp only [Act.put, List.setIfInBounds_toArray, List.set_cons_zero, List.set_cons_succ]
            refine f_call 33 #[.agg #[.int .i64 y2.kind, .string ⟨y2.key.toArray⟩, .int .i64 y2.id, .int .i64 y2.no, .int .i64 y2.size, .slice LA ln lc, .slice BA bn bc], .agg #[.int .i64 y2.kind, .string ⟨y2.key.toArray⟩, .int .i64 y2.id, .int .i64 y2.no, .int .i64 y2.size, .slice L2 a2 b2, .slice B2 d2 e2]] (.bool true) (by rfl) (by intro w' hC; clear hC; go_simp) ?_ ?_
            · intro w' hC hks; exact (HSA.out w' hC).mono fun e w'' hh => ⟨hh.1, hh.2⟩
            simp only [Act.put, List.setIfInBounds_toArray, List.set_cons_zero, List.set_cons_succ]
            refine f_val (.bool false) (by rfl) ?_ ?_
            · intro w' hC; clear hC; first | (go_simp; done)
            simp only [Act.put, List.setIfInBounds_toArray, List.set_cons_zero, List.set_cons_succ]
            refine f_val (.bool false) (by rfl) ?_ ?_
            · intro w' hC; clear hC; first | (go_simp; done)
            simp only [Act.put, List.setIfInBounds_toArray, List.set_cons_zero, List.set_cons_succ]
            refine f_val (.bool false) (by rfl) ?_ ?_
            · intro w' hC; clear hC; first | (go_simp; done)
            simp only [Act.put, List.setIfInBounds_toArray, List.set_cons_zero, List.set_cons_succ]
            refine f_val (.bool false) (by rfl) ?_ ?_
            · intro w' hC; clear hC; first | (go_simp; done)
            simp only [Act.put, List.setIfInBounds_toArray, List.set_cons_zero, List.set_cons_succ]
            refine wpF_end ?_
            intro w11 hC hks
            have HCw11 := Lib.hid hC
            clear hC hks
            go_wp2_with (fail)
            exact ⟨⟨i + 1, HLT.out, rfl, Lib.hid (Grows.trans HG6.out HCw11.out)⟩, less_oneS HLT.out⟩
        · obtain rfl : i = q := by omega
          have hlt' : ¬ ((i : Int) < (i : Int)) := by omega
          obtain ⟨wa, rfl⟩ : ∃ x, x = wr := ⟨_, rfl⟩
          have HD8 := Lib.hid (HD7.out.grow HG.out)
          have HW8 := Lib.hid (HW7.out.grow HG.out)
          clear HD7 HW7 HG
          have hall := segAll_any wa 1 (by omega) HD8.out HSF.out.2 (by have := HK.out; omega)
          have hi1 : rs[kk]? = some r1 := by
            have hx := HX.out
            rw [hx.1, List.getElem?_append_right (by rw [hx.2.1]; exact Nat.le_refl _), hx.2.1, Nat.sub_self]
            rfl
          have htk : rs.take kk = us := by
            have hx := HX.out
            rw [hx.1, List.take_left' hx.2.1]
          have hrd : (Dk.flip m (nmS 1) (KK : Nat) zn).1.read (nmS 1) 0 ((Dk.flip m (nmS 1) (KK : Nat) zn).1.size (nmS 1)).1 = (some (burstB (segB 1 rs) KK zn 32), 0) := by
            have h1 := HSF.out.1.read 0 (segB 1 rs).length (by omega)
            rw [List.drop_zero, List.take_of_length_le (by rw [burstB_length]; exact Nat.le_refl _)] at h1
            rw [HSF.out.1.size]
            exact h1
          have hsp := segAll_spoilt (m := (Dk.flip m (nmS 1) (KK : Nat) zn).1) (n := 1) (rs := rs) (i := kk) (K := KK) (v := zn) (r := r1) HRR.out hi1 (by rw [htk]; have := HKK.out; have := HX.out; omega) (by rw [htk]; have := HKK.out; have := HX.out; omega) HZN.out.1 HZN.out.2 hrd
          rw [hsp] at hall
          have HALL := Lib.hid hall
          clear hall hi1 htk hrd hsp
          go_wp2_with (fail)
          refine HALL.out.mono ?_
          rintro e w8 ⟨FA, fc, fl, rfl, hf, hfl, hg8⟩
          have HFF := Lib.hid (And.intro hf.fnds hfl)
          have HD9 := Lib.hid (HD8.out.grow hg8)
          have HW9 := Lib.hid (HW8.out.grow hg8)
          have hfx := HW9.out.fnds HD9.out.low
          have hlg : g < w8.heap.size := by
            obtain ⟨x, hx⟩ : ∃ x, l[0]? = some x := ⟨_, List.getElem?_eq_getElem (by rw [HW9.out.len]; omega)⟩
            obtain ⟨g', hgg, hg, _⟩ := hfx.row.spot 0 x hx
            injection hgg with hgg
            injection hgg with hgg _ _
            rw [hgg]
            exact hg
          obtain ⟨k1, hk1⟩ : ∃ k1, kk + 1 = k1 := ⟨_, rfl⟩
          have hkw : IntKind.i64.wrap ((kk : Int) + 1) = (k1 : Int) := by rw [IntWalk.i64_in _ (by have := HK.out; omega)]; omega
          have hp1 := fn_part hfx hlg 0 kk (by omega)
          rw [List.drop_zero, Nat.zero_mul] at hp1
          have hp2 := fn_part hfx hlg k1 (i - k1) (by omega)
          rw [List.take_of_length_le (l := l.drop k1) (by rw [List.length_drop, HW9.out.len]; exact Nat.le_refl _)] at hp2
          obtain ⟨n2, hn2⟩ : ∃ n2, i - k1 = n2 := ⟨_, rfl⟩
          rw [hn2] at hp2
          obtain ⟨j9, hj9⟩ : ∃ j9, kk + n2 = j9 := ⟨_, rfl⟩
          have HP := Lib.hid (And.intro hp1 (And.intro hp2 (And.intro hj9 (show j9 ≤ 1000000 by have := HK.out; omega))))
          have hfo : fnsOf fl = fnsOf (l.take kk ++ l.drop k1) := by
            rw [fnsOf_append, fnsOf_take, fnsOf_drop, HFL.out, ← hk1]
            exact hfl
          have hl2 : (l.take kk ++ l.drop k1).length = j9 := by rw [List.length_append, List.length_take, List.length_drop, HW9.out.len]; omega
          have hrec2 : ∀ p ∈ l.take kk ++ l.drop k1, p ∈ l := fun p hp => by
            rcases List.mem_append.1 hp with h | h
            · exact List.mem_of_mem_take h
            · exact List.mem_of_mem_drop h
          have hsml : ∀ p ∈ fl, p.2.1.2.1 ≤ 1000000 := fun p hp => by
            have h1 := (hf.fnds.recs p hp).locs.len
            have h3 : p.1 ∈ fnsOf l := by
              have h4 : p.1 ∈ fnsOf (l.take kk ++ l.drop k1) := by rw [← hfo]; exact List.mem_map.2 ⟨p, hp, rfl⟩
              obtain ⟨q, hq, e⟩ := List.mem_map.1 h4
              exact List.mem_map.2 ⟨q, hrec2 q hq, e⟩
            rw [HFL.out] at h3
            have h5 := loc_small (found_right _ _ HRR.out _ h3)
            omega
          have hfln : fl.length = j9 := by
            have h1 := congrArg List.length hfo
            unfold fnsOf at h1
            rw [List.length_map, List.length_map, hl2] at h1
            exact h1
          obtain ⟨nf, hnf⟩ : ∃ nf, fl.length = nf := ⟨_, rfl⟩
          have HSM := Lib.hid (fun w' (hG : Grows w8 w') (A' : Option Addr) (c' : Nat) (hown : w'.ownsRow w8.heap.size 63 9 (.slice A' j9 c') j9 ((l.take kk).flatMap fnE ++ (l.drop k1).flatMap fnE)) => by
            have h2 : Fnds w' A' j9 (l.take kk ++ l.drop k1) := ⟨Rw.owned fnL hl2 (by rw [List.flatMap_append]; exact owned_from hown (Nat.zero_le _)), fun p hp => ((hfx.grow hG).recs p (hrec2 p hp))⟩
            have h3 := sameF_any w' fl (l.take kk ++ l.drop k1) FA fl.length fc A' j9 c' (hf.fnds.grow hG) h2 (by rw [hfln]; have := HP.out.2.2.2; omega) hsml
            rw [decide_eq_true hfo] at h3
            rw [hnf] at h3
            exact h3)
          rw [hnf]
          have hkc : (kk : Int) ≤ (c : Int) := by have := HW9.out.own.1; have hcap := Want.cap HW9.out; omega
          have hkc1 : (k1 : Int) ≤ (i : Int) := by omega
          have hkp : (0 : Int) ≤ (k1 : Int) := by omega
          have hkk1 : kk < k1 := by omega
          have hic : (i : Int) ≤ (c : Int) := by have hcap := Want.cap HW9.out; omega
          have HNN := Lib.hid (And.intro hk1 hn2)
          clear hf hfl hg8 hfx hp1 hp2 hj9 hfo hl2 hrec2 hsml hfln hnf hk1 hn2 HALL HX HKK hkq hqn
          by_cases hcc : c = k1
          · obtain rfl : n2 = 0 := by have := HNN.out; omega
            have HROW := Lib.hid (show Row w8 w8.heap.size (some ⟨g, 0, none⟩) (9 * 0) ((l.drop k1).flatMap fnE) from by
              have h0 := HP.out.2.1
              have h1 : (l.drop k1).flatMap fnE = [] := List.eq_nil_of_length_eq_zero h0.len
              rw [h1]
              exact Row.nil _ _ _)
            subst hcc
            go_wp2_with (fail)
            refine wp_region_jobs (G := Grows) (E := Spares (fun b => w8.heap.size ≤ b)) 23 [valJob (fun b => w8.heap.size ≤ b) (.bool true), valJob (fun b => w8.heap.size ≤ b) (.bool true), valJob (fun b => w8.heap.size ≤ b) (.int .i64 0), valJob (fun b => w8.heap.size ≤ b) (.bool true), valJob (fun b => w8.heap.size ≤ b) (.bool true), valJob (fun b => w8.heap.size ≤ b) (.bool true), valJob (fun b => w8.heap.size ≤ b) (.int .i64 1), valJob (fun b => w8.heap.size ≤ b) (.bool true), valJob (fun b => w8.heap.size ≤ b) (.bool true), valJob (fun b => w8.heap.size ≤ b) (.bool true), valJob (fun b => w8.heap.size ≤ b) (.slice FA nf fc), clsJob (fun b => w8.heap.size ≤ b) Nat 0 (fun g' => .slice (some ⟨g', 0, none⟩) 0 0) (fun g' w => w.ownsRow w8.heap.size 63 9 (.slice (some ⟨g', 0, none⟩) 0 0) 0 []) (fun g' a b h hg => owned_grow h hg), valJob (fun b => w8.heap.size ≤ b) (.slice (some ⟨g, 0, none⟩) i c), valJob (fun b => w8.heap.size ≤ b) (.int .i64 (kk : Nat)), valJob (fun b => w8.heap.size ≤ b) (.slice (some ⟨g, 0, none⟩) kk c), clsJob (fun b => w8.heap.size ≤ b) (Option Addr × Nat) (none, 0) (fun p => .slice p.1 kk p.2) (fun p w => w.ownsRow w8.heap.size 63 9 (.slice p.1 kk p.2) kk ([] ++ (l.take kk).flatMap fnE)) (fun p a b h hg => owned_grow h hg), valJob (fun b => w8.heap.size ≤ b) (.slice (some ⟨g, 0, none⟩) i c), valJob (fun b => w8.heap.size ≤ b) (.int .i64 (kk : Nat)), valJob (fun b => w8.heap.size ≤ b) (.int .i64 (c : Nat)), valJob (fun b => w8.heap.size ≤ b) (.slice (some ⟨g, 0, none⟩) 0 0), clsJob (fun b => w8.heap.size ≤ b) (Option Addr × Nat) (none, 0) (fun p => .slice p.1 j9 p.2) (fun p w => w.ownsRow w8.heap.size 63 9 (.slice p.1 j9 p.2) j9 ([] ++ (l.take kk).flatMap fnE ++ (l.drop c).flatMap fnE)) (fun p a b h hg => owned_grow h hg), rdJob (fun b => w8.heap.size ≤ b) (.bool true), valJob (fun b => w8.heap.size ≤ b) (.bool true)] [(false, false), (false, false), (false, false), (false, false), (false, false), (false, false), (false, false), (false, false), (false, false), (false, false), (false, false), (true, true), (false, false), (false, false), (false, false), (true, true), (false, false), (false, false), (false, false), (false, false), (true, true), (true, false), (false, false)] (fun _ => True) rfl mixed (by kernel_rfl) (fun _ _ => Spares.grows) (fun _ _ _ => Spares.trans) (spares_drew _ _) (trivial) (fun _ _ _ _ => trivial) ?_
            simp only [List.take_succ_cons, List.take_zero, List.drop_succ_cons, List.drop_zero]
            refine j_val (.bool true) (by rfl) ?_ ?_
            · intro w' hC; clear hC; first | (go_simp; done)
            simp only [Act.put, List.setIfInBounds_toArray, List.set_cons_zero, List.set_cons_succ]
            refine j_val (.bool true) (by rfl) ?_ ?_
            · intro w' hC; clear hC; first | (go_simp; done)
            simp only [Act.put, List.setIfInBounds_toArray, List.set_cons_zero, List.set_cons_succ]
            refine j_val (.int .i64 0) (by rfl) ?_ ?_
            · intro w' hC; clear hC; first | (go_simp; done)
            simp only [Act.put, List.setIfInBounds_toArray, List.set_cons_zero, List.set_cons_succ]
            refine j_val (.bool true) (by rfl) ?_ ?_
            · intro w' hC; clear hC; first | (go_simp; done)
            simp only [Act.put, List.setIfInBounds_toArray, List.set_cons_zero, List.set_cons_succ]
            refine j_val (.bool true) (by rfl) ?_ ?_
            · intro w' hC; clear hC; first | (go_simp; done)
            simp only [Act.put, List.setIfInBounds_toArray, List.set_cons_zero, List.set_cons_succ]
            refine j_val (.bool true) (by rfl) ?_ ?_
            · intro w' hC; clear hC; first | (go_simp; done)
            simp only [Act.put, List.setIfInBounds_toArray, List.set_cons_zero, List.set_cons_succ]
            refine j_val (.int .i64 1) (by rfl) ?_ ?_
            · intro w' hC; clear hC; first | (go_simp; done)
            simp only [Act.put, List.setIfInBounds_toArray, List.set_cons_zero, List.set_cons_succ]
            refine j_val (.bool true) (by rfl) ?_ ?_
            · intro w' hC; clear hC; first | (go_simp; done)
            simp only [Act.put, List.setIfInBounds_toArray, List.set_cons_zero, List.set_cons_succ]
            refine j_val (.bool true) (by rfl) ?_ ?_
            · intro w' hC; clear hC; first | (go_simp; done)
            simp only [Act.put, List.setIfInBounds_toArray, List.set_cons_zero, List.set_cons_succ]
            refine j_val (.bool true) (by rfl) ?_ ?_
            · intro w' hC; clear hC; first | (go_simp; done)
            simp only [Act.put, List.setIfInBounds_toArray, List.set_cons_zero, List.set_cons_succ]
            refine j_val (.slice FA nf fc) (by rfl) ?_ ?_
            · intro w' hC; clear hC; first | (go_simp; done)
            simp only [Act.put, List.setIfInBounds_toArray, List.set_cons_zero, List.set_cons_succ]
            refine j_cls (by rfl) ?_ ?_
            · intro w' hC hcls
              refine ⟨w'.heap.size, w'.alloc (.cells #[] 63), ?_, Spares.grows (grows_alloc _ _), lit_row _ _ hC.size⟩
              clear hC hcls
              first | (go_simp; done)
            intro g'
            simp only [Act.put, List.setIfInBounds_toArray, List.set_cons_zero, List.set_cons_succ]
            refine j_val (.slice (some ⟨g, 0, none⟩) i c) (by rfl) ?_ ?_
            · intro w' hC; clear hC; first | (go_simp; done)
            simp only [Act.put, List.setIfInBounds_toArray, List.set_cons_zero, List.set_cons_succ]
            refine j_val (.int .i64 (kk : Nat)) (by rfl) ?_ ?_
            · intro w' hC; clear hC; first | (go_simp; done)
            simp only [Act.put, List.setIfInBounds_toArray, List.set_cons_zero, List.set_cons_succ]
            refine j_val (.slice (some ⟨g, 0, none⟩) kk c) (by rfl) ?_ ?_
            · intro w' hC; clear hC; first | (go_simp; done)
            simp only [Act.put, List.setIfInBounds_toArray, List.set_cons_zero, List.set_cons_succ]
            refine j_cls (by rfl) ?_ ?_
            · intro w' hC hcls
              obtain ⟨A', c', w'', hrun, ho2, hs2⟩ := app_own (ty := 56) hcls ((spares_grows hC).row HP.out.1) (fnE_ones _) kk (by omega) (by have := HP.out.2.2.2; have := HP.out.2.2.1; omega) hC.size
              exact ⟨(A', c'), w'', exec_app9 (by rfl) (by rfl) (by rfl) hrun, hs2, ho2⟩
            intro P1
            simp only [Act.put, List.setIfInBounds_toArray, List.set_cons_zero, List.set_cons_succ]
            refine j_val (.slice (some ⟨g, 0, none⟩) i c) (by rfl) ?_ ?_
            · intro w' hC; clear hC; first | (go_simp; done)
            simp only [Act.put, List.setIfInBounds_toArray, List.set_cons_zero, List.set_cons_succ]
            refine j_val (.int .i64 (kk : Nat)) (by rfl) ?_ ?_
            · intro w' hC; clear hC; first | (go_simp; done)
            simp only [Act.put, List.setIfInBounds_toArray, List.set_cons_zero, List.set_cons_succ]
            refine j_val (.int .i64 (c : Nat)) (by rfl) ?_ ?_
            · intro w' hC; clear hC; first | (go_simp; done)
            simp only [Act.put, List.setIfInBounds_toArray, List.set_cons_zero, List.set_cons_succ]
            refine j_val (.slice (some ⟨g, 0, none⟩) 0 0) (by rfl) ?_ ?_
            · intro w' hC; clear hC; first | (go_simp; done) | (go_simp; exact HNN.out.2)
            simp only [Act.put, List.setIfInBounds_toArray, List.set_cons_zero, List.set_cons_succ]
            refine j_cls (by rfl) ?_ ?_
            · intro w' hC hcls
              obtain ⟨A', c', w'', hrun, ho2, hs2⟩ := app_own (ty := 56) hcls ((spares_grows hC).row HROW.out) (fnE_ones _) j9 (HP.out.2.2.1) (by have := HP.out.2.2.2; have := HP.out.2.2.1; omega) hC.size
              exact ⟨(A', c'), w'', exec_app9 (by rfl) (by rfl) (by rfl) hrun, hs2, ho2⟩
            intro P2
            simp only [Act.put, List.setIfInBounds_toArray, List.set_cons_zero, List.set_cons_succ]
            refine j_rcall 35 #[.slice FA nf fc, .slice P2.1 j9 P2.2] (.bool true) (by rfl) (by intro w' hC; clear hC; go_simp) ?_ ?_
            · intro w' hC hcls; exact HSM.out w' (spares_grows hC) _ _ hcls
            simp only [Act.put, List.setIfInBounds_toArray, List.set_cons_zero, List.set_cons_succ]
            refine j_val (.bool true) (by rfl) ?_ ?_
            · intro w' hC; clear hC; first | (go_simp; done)
            simp only [Act.put, List.setIfInBounds_toArray, List.set_cons_zero, List.set_cons_succ]
            refine wpJ_end ?_
            intro w10 hC hks hcls
            have HCw10 := Lib.hid hC
            have HLw10 := Lib.hid hcls
            clear hC hks hcls
            go_wp2_with (fail)
            go_ret
            exact ⟨rfl, HD9.out.low.trans (HCw10.out.below HD9.out.size fun k hk e => by have := HD9.out.size; omega)⟩
          · have HROW := Lib.hid HP.out.2.1
            go_wp2_with (fail)
            refine wp_region_jobs (G := Grows) (E := Spares (fun b => w8.heap.size ≤ b)) 23 [valJob (fun b => w8.heap.size ≤ b) (.bool true), valJob (fun b => w8.heap.size ≤ b) (.bool true), valJob (fun b => w8.heap.size ≤ b) (.int .i64 0), valJob (fun b => w8.heap.size ≤ b) (.bool true), valJob (fun b => w8.heap.size ≤ b) (.bool true), valJob (fun b => w8.heap.size ≤ b) (.bool true), valJob (fun b => w8.heap.size ≤ b) (.int .i64 1), valJob (fun b => w8.heap.size ≤ b) (.bool true), valJob (fun b => w8.heap.size ≤ b) (.bool true), valJob (fun b => w8.heap.size ≤ b) (.bool true), valJob (fun b => w8.heap.size ≤ b) (.slice FA nf fc), clsJob (fun b => w8.heap.size ≤ b) Nat 0 (fun g' => .slice (some ⟨g', 0, none⟩) 0 0) (fun g' w => w.ownsRow w8.heap.size 63 9 (.slice (some ⟨g', 0, none⟩) 0 0) 0 []) (fun g' a b h hg => owned_grow h hg), valJob (fun b => w8.heap.size ≤ b) (.slice (some ⟨g, 0, none⟩) i c), valJob (fun b => w8.heap.size ≤ b) (.int .i64 (kk : Nat)), valJob (fun b => w8.heap.size ≤ b) (.slice (some ⟨g, 0, none⟩) kk c), clsJob (fun b => w8.heap.size ≤ b) (Option Addr × Nat) (none, 0) (fun p => .slice p.1 kk p.2) (fun p w => w.ownsRow w8.heap.size 63 9 (.slice p.1 kk p.2) kk ([] ++ (l.take kk).flatMap fnE)) (fun p a b h hg => owned_grow h hg), valJob (fun b => w8.heap.size ≤ b) (.slice (some ⟨g, 0, none⟩) i c), valJob (fun b => w8.heap.size ≤ b) (.int .i64 (kk : Nat)), valJob (fun b => w8.heap.size ≤ b) (.int .i64 (k1 : Nat)), valJob (fun b => w8.heap.size ≤ b) (.slice (some ⟨g, k1 * 9, none⟩) n2 (c - k1)), clsJob (fun b => w8.heap.size ≤ b) (Option Addr × Nat) (none, 0) (fun p => .slice p.1 j9 p.2) (fun p w => w.ownsRow w8.heap.size 63 9 (.slice p.1 j9 p.2) j9 ([] ++ (l.take kk).flatMap fnE ++ (l.drop k1).flatMap fnE)) (fun p a b h hg => owned_grow h hg), rdJob (fun b => w8.heap.size ≤ b) (.bool true), valJob (fun b => w8.heap.size ≤ b) (.bool true)] [(false, false), (false, false), (false, false), (false, false), (false, false), (false, false), (false, false), (false, false), (false, false), (false, false), (false, false), (true, true), (false, false), (false, false), (false, false), (true, true), (false, false), (false, false), (false, false), (false, false), (true, true), (true, false), (false, false)] (fun _ => True) rfl mixed (by kernel_rfl) (fun _ _ => Spares.grows) (fun _ _ _ => Spares.trans) (spares_drew _ _) (trivial) (fun _ _ _ _ => trivial) ?_
            simp only [List.take_succ_cons, List.take_zero, List.drop_succ_cons, List.drop_zero]
            refine j_val (.bool true) (by rfl) ?_ ?_
            · intro w' hC; clear hC; first | (go_simp; done)
            simp only [Act.put, List.setIfInBounds_toArray, List.set_cons_zero, List.set_cons_succ]
            refine j_val (.bool true) (by rfl) ?_ ?_
            · intro w' hC; clear hC; first | (go_simp; done)
            simp only [Act.put, List.setIfInBounds_toArray, List.set_cons_zero, List.set_cons_succ]
            refine j_val (.int .i64 0) (by rfl) ?_ ?_
            · intro w' hC; clear hC; first | (go_simp; done)
            simp only [Act.put, List.setIfInBounds_toArray, List.set_cons_zero, List.set_cons_succ]
            refine j_val (.bool true) (by rfl) ?_ ?_
            · intro w' hC; clear hC; first | (go_simp; done)
            simp only [Act.put, List.setIfInBounds_toArray, List.set_cons_zero, List.set_cons_succ]
            refine j_val (.bool true) (by rfl) ?_ ?_
            · intro w' hC; clear hC; first | (go_simp; done)
            simp only [Act.put, List.setIfInBounds_toArray, List.set_cons_zero, List.set_cons_succ]
            refine j_val (.bool true) (by rfl) ?_ ?_
            · intro w' hC; clear hC; first | (go_simp; done)
            simp only [Act.put, List.setIfInBounds_toArray, List.set_cons_zero, List.set_cons_succ]
            refine j_val (.int .i64 1) (by rfl) ?_ ?_
            · intro w' hC; clear hC; first | (go_simp; done)
            simp only [Act.put, List.setIfInBounds_toArray, List.set_cons_zero, List.set_cons_succ]
            refine j_val (.bool true) (by rfl) ?_ ?_
            · intro w' hC; clear hC; first | (go_simp; done)
            simp only [Act.put, List.setIfInBounds_toArray, List.set_cons_zero, List.set_cons_succ]
            refine j_val (.bool true) (by rfl) ?_ ?_
            · intro w' hC; clear hC; first | (go_simp; done)
            simp only [Act.put, List.setIfInBounds_toArray, List.set_cons_zero, List.set_cons_succ]
            refine j_val (.bool true) (by rfl) ?_ ?_
            · intro w' hC; clear hC; first | (go_simp; done)
            simp only [Act.put, List.setIfInBounds_toArray, List.set_cons_zero, List.set_cons_succ]
            refine j_val (.slice FA nf fc) (by rfl) ?_ ?_
            · intro w' hC; clear hC; first | (go_simp; done)
            simp only [Act.put, List.setIfInBounds_toArray, List.set_cons_zero, List.set_cons_succ]
            refine j_cls (by rfl) ?_ ?_
            · intro w' hC hcls
              refine ⟨w'.heap.size, w'.alloc (.cells #[] 63), ?_, Spares.grows (grows_alloc _ _), lit_row _ _ hC.size⟩
              clear hC hcls
              first | (go_simp; done)
            intro g'
            simp only [Act.put, List.setIfInBounds_toArray, List.set_cons_zero, List.set_cons_succ]
            refine j_val (.slice (some ⟨g, 0, none⟩) i c) (by rfl) ?_ ?_
            · intro w' hC; clear hC; first | (go_simp; done)
            simp only [Act.put, List.setIfInBounds_toArray, List.set_cons_zero, List.set_cons_succ]
            refine j_val (.int .i64 (kk : Nat)) (by rfl) ?_ ?_
            · intro w' hC; clear hC; first | (go_simp; done)
            simp only [Act.put, List.setIfInBounds_toArray, List.set_cons_zero, List.set_cons_succ]
            refine j_val (.slice (some ⟨g, 0, none⟩) kk c) (by rfl) ?_ ?_
            · intro w' hC; clear hC; first | (go_simp; done)
            simp only [Act.put, List.setIfInBounds_toArray, List.set_cons_zero, List.set_cons_succ]
            refine j_cls (by rfl) ?_ ?_
            · intro w' hC hcls
              obtain ⟨A', c', w'', hrun, ho2, hs2⟩ := app_own (ty := 56) hcls ((spares_grows hC).row HP.out.1) (fnE_ones _) kk (by omega) (by have := HP.out.2.2.2; have := HP.out.2.2.1; omega) hC.size
              exact ⟨(A', c'), w'', exec_app9 (by rfl) (by rfl) (by rfl) hrun, hs2, ho2⟩
            intro P1
            simp only [Act.put, List.setIfInBounds_toArray, List.set_cons_zero, List.set_cons_succ]
            refine j_val (.slice (some ⟨g, 0, none⟩) i c) (by rfl) ?_ ?_
            · intro w' hC; clear hC; first | (go_simp; done)
            simp only [Act.put, List.setIfInBounds_toArray, List.set_cons_zero, List.set_cons_succ]
            refine j_val (.int .i64 (kk : Nat)) (by rfl) ?_ ?_
            · intro w' hC; clear hC; first | (go_simp; done)
            simp only [Act.put, List.setIfInBounds_toArray, List.set_cons_zero, List.set_cons_succ]
            refine j_val (.int .i64 (k1 : Nat)) (by rfl) ?_ ?_
            · intro w' hC; clear hC; first | (go_simp; done)
            simp only [Act.put, List.setIfInBounds_toArray, List.set_cons_zero, List.set_cons_succ]
            refine j_val (.slice (some ⟨g, k1 * 9, none⟩) n2 (c - k1)) (by rfl) ?_ ?_
            · intro w' hC; clear hC; first | (go_simp; done) | (go_simp; exact HNN.out.2)
            simp only [Act.put, List.setIfInBounds_toArray, List.set_cons_zero, List.set_cons_succ]
            refine j_cls (by rfl) ?_ ?_
            · intro w' hC hcls
              obtain ⟨A', c', w'', hrun, ho2, hs2⟩ := app_own (ty := 56) hcls ((spares_grows hC).row HROW.out) (fnE_ones _) j9 (HP.out.2.2.1) (by have := HP.out.2.2.2; have := HP.out.2.2.1; omega) hC.size
              exact ⟨(A', c'), w'', exec_app9 (by rfl) (by rfl) (by rfl) hrun, hs2, ho2⟩
            intro P2
            simp only [Act.put, List.setIfInBounds_toArray, List.set_cons_zero, List.set_cons_succ]
            refine j_rcall 35 #[.slice FA nf fc, .slice P2.1 j9 P2.2] (.bool true) (by rfl) (by intro w' hC; clear hC; go_simp) ?_ ?_
            · intro w' hC hcls; exact HSM.out w' (spares_grows hC) _ _ hcls
            simp only [Act.put, List.setIfInBounds_toArray, List.set_cons_zero, List.set_cons_succ]
            refine j_val (.bool true) (by rfl) ?_ ?_
            · intro w' hC; clear hC; first | (go_simp; done)
            simp only [Act.put, List.setIfInBounds_toArray, List.set_cons_zero, List.set_cons_succ]
            refine wpJ_end ?_
            intro w10 hC hks hcls
            have HCw10 := Lib.hid hC
            have HLw10 := Lib.hid hcls
            clear hC hks hcls
            go_wp2_with (fail)
            go_ret
            exact ⟨rfl, HD9.out.low.trans (HCw10.out.below HD9.out.size fun k hk e => by have := HD9.out.size; omega)⟩

set_option maxRecDepth 100000 in
theorem segSpoilt_lifted (os : Os) (started : os.Started) (H : Type) (enc : TypeId × Value → H) :
    ReturnsInHanded {} Try.checked os 8 .any (Rows.segSpoiltSpec.pre6 enc Try.prog Try.f8 Rows.segSpoiltRow.domain false) (Rows.segSpoiltSpec.post enc Try.prog Try.f8 false true false false) := by
  refine lift_law (C := Try.checked) H enc own started (by kernel_rfl) Try.func8
    (ChangeSpec.witness6 (enc := enc) (C := Try.checked) false ⟨#[], #[.slice none 0 0, .int .u8 0, .int .u16 0, .int .u32 0], []⟩ 16 (by kernel_rfl) (by kernel_rfl) (by kernel_rfl) (by kernel_rfl))
    laidOut (of_readable (by kernel_rfl)) rfl Try.underlying4 rfl (fun ds hd => ?_) (fun W base args ds p hval hA hsz => ?_)
  · match ds, hd with
    | [d1, d2, d3, d4], _ => rfl
  · rw [Try.params8] at hA hval hsz
    obtain ⟨v0, vs0, d0, ds0, p0, q0, hargs, rfl, rfl, h0, r0⟩ := trodAll_cons hA
    obtain ⟨v1, vs1, d1, ds1, p1, q1, rfl, rfl, rfl, h1, r1⟩ := trodAll_cons r0
    obtain ⟨v2, vs2, d2, ds2, p2, q2, rfl, rfl, rfl, h2, r2⟩ := trodAll_cons r1
    obtain ⟨v3, vs3, d3, ds3, p3, q3, rfl, rfl, rfl, h3, r3⟩ := trodAll_cons r2
    obtain ⟨rfl, rfl, rfl⟩ := trodAll_nil r3
    obtain rfl : args = #[v0, v1, v2, v3] := by cases args; simp_all
    obtain ⟨A0, n0, c0, xs0, rfl, hx0⟩ := open_recs (hval 0 54 v0 rfl rfl) h0
    obtain ⟨a1, rfl, _, _, w1⟩ := open_int Try.underlying5 (hval 1 5 v1 rfl rfl) h1
    have b1 := bounds_u8 w1
    obtain ⟨a2, rfl, _, _, w2⟩ := open_int Try.underlying43 (hval 2 43 v2 rfl rfl) h2
    have b2 := bounds_u16 w2
    obtain ⟨a3, rfl, _, _, w3⟩ := open_int Try.underlying44 (hval 3 44 v3 rfl rfl) h3
    have b3 := bounds_u32 w3
    exact segSpoilt_law W A0 n0 c0 xs0 hx0 a1 (by omega) a2 (by omega) a3 (by omega)

theorem segSpoilt_over : Rows.segSpoiltRow.holds Try.pinned (OpenSpec.ofChange Rows.segSpoiltSpec) :=
  OpenClaim.holds_of_wide 8 Try.f8 rfl rfl rfl rfl rfl rfl rfl ⟨rfl, rfl, rfl, rfl, rfl⟩ rfl rfl rfl rfl rfl (by kernel_rfl) Try.func8 (by kernel_rfl)
    (of_decide_eq_true (by kernel_rfl)) (by unfold Func.isWrapper; first | (rw [if_pos (by decide +kernel)]; kernel_rfl) | (rw [if_neg (by decide +kernel)]; exact ⟨rfl, rfl⟩))
    (fun os started H enc _ => segSpoilt_lifted os started H enc)
theorem segSpoilt_holds : Rows.SegSpoiltSaid := segSpoilt_over
end Go.Proofs.Ytdkpbphgaenlnaa
