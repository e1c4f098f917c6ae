/-
  Statement SegBack: what was added is got at its place, and stands among all, in order; what is not right is not added. Any number, any list of records, no condition.
-/
import Derived.Test.YtgemjdacnomnhaaMS
import Derived.Test.YtgemjdacnomnhaaMG
import Derived.Test.YtgemjdacnomnhaaWalkBits
import Derived.ProofKit
import Derived.ChangeOld
namespace Go.Proofs.Ytgemjdacnomnhaa
open Go.ChangeShapes Go.WideShapes Go.ChangeAt Go.RowKit
set_option linter.unusedSimpArgs false
set_option linter.unusedVariables false
attribute [local irreducible] wpF
set_option maxHeartbeats 16000000 in
set_option maxRecDepth 100000 in
theorem segBack_law (w : World) (u : Int) (hu : 0 ≤ u ∧ u ≤ 4294967295) (A0 : Option Addr) (n0 c0 : Nat) (ls : List Rc) (hl : Recs w A0 n0 c0 ls) :
    Calls Try.prog 6 #[.int .u32 u, .slice A0 n0 c0] w fun e w' => e = .returned (.bool true) ∧ Below w.heap.size w w' := by
  have HL := Lib.hid hl
  clear hl
  obtain ⟨k, hk⟩ : ∃ k, u % 100000000 = k := ⟨_, rfl⟩
  have hkb : 0 ≤ k ∧ k ≤ 99999999 := by omega
  have hk1 : IntKind.u32.wrap k = k := by show k % 4294967296 = k; omega
  have hk2 : IntKind.i64.wrap k = k := IntWalk.i64_in _ (by omega)
  have hk3 : u.tmod 100000000 = k := by rw [Int.tmod_eq_emod_of_nonneg hu.1]; exact hk
  obtain ⟨i1, hi1, hz1, hy1, hb1⟩ := info_parts infoFnd
  have HI1 := Lib.hid (And.intro hi1 (And.intro hz1 (And.intro hy1 hb1)))
  have HKB := Lib.hid hkb
  clear hi1 hz1 hy1 hb1 hkb
  go_enter Try.func6, Try.ntmps6
  go_wp2_with (fail)
  refine (head9_any w).mono ?_
  rintro e w0 ⟨rfl, hb0⟩
  have HB0 := Lib.hid hb0
  clear hb0
  go_wp2_with (fail)
  refine (new_any w0 16777216).mono ?_
  rintro e w1 ⟨d, rfl, hn⟩
  have HD := Lib.hid (show DkIn w.heap.size w w1 d (fun _ => False) Go.Proofs.Ytgemjdacnomnhaa.A0 from DkIn.new hn HB0.out.size HB0.out (fun k h => h.elim))
  clear hn
  by_cases h100 : n0 ≤ 100
  rotate_left 1
  · have h100' : (n0 : Int) > 100 := by omega
    go_wp2_with (fail)
    go_ret
    exact ⟨rfl, HD.out.low⟩
  have h100' : ¬ ((n0 : Int) > 100) := by omega
  have hmk := segMake_any w1 k HKB.out HD.out A0ok (by omega)
  rw [B1made HKB.out] at hmk
  have HMK := Lib.hid hmk
  clear hmk
  go_wp2_with (fail)
  refine HMK.out.mono ?_
  rintro e w2 ⟨rfl, hd, hst⟩
  have HD2 := Lib.hid (show DkIn w.heap.size w w2 d (fun _ => False) (B1 k) from hd)
  clear hd hst HD HMK
  go_wp2_with (fail)
  go_loopw [8, 9] (fun vw vi wr => ∃ (j : Nat) (m : Dk) (A : Option Addr) (q c : Nat) (l : List (Fn × Fh)) (out : Nat → Prop), j ≤ n0 ∧ q ≤ j ∧ vw = .slice A q c ∧ vi = .int .i64 (j : Nat) ∧ Hid (DkIn w.heap.size w wr d out m) ∧ Hid (SB m k (rightL (ls.take j)) j) ∧ Hid (Want w.heap.size w wr out A q c l) ∧ Hid (fnsOf l = foundL (rightL (ls.take j)) 13)) (fun _ i _ => n0 - (intOf i).toNat)
  case atStart => exact ⟨0, B1 k, none, 0, 0, [], fun _ => False, Nat.zero_le _, Nat.le_refl _, rfl, rfl, HD2, Lib.hid (SB.start HKB.out), Lib.hid (Want.nil _ _ _ _), Lib.hid rfl⟩
  case round =>
    obtain ⟨j, m, A, q, c, l, out, hj, hq, rfl, rfl, HW, HSB, HWN, HFL⟩ := hrel
    clear HD2
    by_cases hlt : j < n0
    · have hlt' : (j : Int) < (n0 : Int) := by omega
      have hj0 : (0 : Int) ≤ (j : Int) := by omega
      have HK := Lib.hid (show 8202 + 8200 * j ≤ 900000 ∧ j ≤ 200 ∧ q ≤ j ∧ j ≤ 100 by omega)
      obtain ⟨ad, o, p, rfl, hblk, hoi, hin, hcs⟩ := HL.out.spot j hlt
      obtain ⟨q0, q1, q2, q3, q4, q5, q6⟩ := rc_cells (by rw [add_block]; exact hblk) hcs HW.out.low
      have HLT := Lib.hid hlt
      obtain ⟨⟨LA, ln, lc⟩, ⟨BA, bn, bc⟩⟩ := p
      have HIN := Lib.hid (show RcIn w LA ln lc BA bn bc o from hin)
      have HCS := Lib.hid (And.intro hblk hcs)
      dsimp only at q5 q6
      have hadd := segAdd_any wr k o (HIN.out.grow HW.out.low) HW.out HSB.out.ok (by have := HK.out; omega)
      have hrt := fun w' (hg : Grows w w') => refRight_one o.kind o.key o.id o.no o.size LA ln lc BA bn bc o.locs o.b w' (HIN.out.grow hg)
      have hnext := rightL_take hoi
      obtain ⟨s, hs⟩ : ∃ s : ByteArray, (⟨o.key.toArray⟩ : ByteArray) = s := ⟨_, rfl⟩
      obtain ⟨k0, hk0⟩ : ∃ k, o.kind = k := ⟨_, rfl⟩
      obtain ⟨i0, hi0⟩ : ∃ k, o.id = k := ⟨_, rfl⟩
      obtain ⟨n9, hn9⟩ : ∃ k, o.no = k := ⟨_, rfl⟩
      obtain ⟨z0, hz0⟩ : ∃ k, o.size = k := ⟨_, rfl⟩
      have HEQ := Lib.hid (And.intro hk0 (And.intro hs (And.intro hi0 (And.intro hn9 hz0))))
      rw [show (⟨o.kind, o.key, o.id, o.no, o.size, o.locs, o.b⟩ : Rc) = o from rfl, hs, hk0, hi0, hn9, hz0] at hrt
      rw [hs, hk0, hi0, hn9, hz0] at hadd
      rw [hs] at q1
      rw [hk0] at q0
      rw [hi0] at q2
      rw [hn9] at q3
      rw [hz0] at q4
      have HADD := Lib.hid hadd
      have HRT := Lib.hid hrt
      have HNX := Lib.hid hnext
      have HCL := Lib.hid (show ∀ w', Grows w w' → w'.cell? (ad.add (j * 7)) = some (.int .i64 k0) ∧ w'.cell? { block := (ad.add (j * 7)).block, off := (ad.add (j * 7)).off + 1 } = some (.string s) ∧ w'.cell? { block := (ad.add (j * 7)).block, off := (ad.add (j * 7)).off + 2 } = some (.int .i64 i0) ∧ w'.cell? { block := (ad.add (j * 7)).block, off := (ad.add (j * 7)).off + 3 } = some (.int .i64 n9) ∧ w'.cell? { block := (ad.add (j * 7)).block, off := (ad.add (j * 7)).off + 4 } = some (.int .i64 z0) ∧ w'.cell? { block := (ad.add (j * 7)).block, off := (ad.add (j * 7)).off + 5 } = some (.slice LA ln lc) ∧ w'.cell? { block := (ad.add (j * 7)).block, off := (ad.add (j * 7)).off + 6 } = some (.slice BA bn bc) from fun w' hg => by
        have h := rc_cells (by rw [add_block]; exact HCS.out.1) HCS.out.2 hg
        rw [hs, hk0, hi0, hn9, hz0] at h
        exact h)
      clear hblk hoi hin hcs hadd hrt hnext hs hk0 hi0 hn9 hz0
      by_cases b1 : bn ≤ 20000
      rotate_left 1
      · have b1' : (bn : Int) > 20000 := by omega
        go_wp2_with (fail)
        go_ret
        exact ⟨rfl, HW.out.low⟩
      have b1' : ¬ ((bn : Int) > 20000) := by omega
      by_cases b2 : ln ≤ 2000
      rotate_left 1
      · have b2' : (ln : Int) > 2000 := by omega
        go_wp2_with (fail)
        go_ret
        exact ⟨rfl, HW.out.low⟩
      have b2' : ¬ ((ln : Int) > 2000) := by omega
      by_cases b3 : s.size ≤ 2000
      rotate_left 1
      · have b3' : (s.size : Int) > 2000 := by omega
        go_wp2_with (fail)
        go_ret
        exact ⟨rfl, HW.out.low⟩
      have b3' : ¬ ((s.size : Int) > 2000) := by omega
      by_cases hr : RightR o
      rotate_left 1
      · obtain ⟨he, hsb⟩ := HSB.out.ill hr
        rw [if_neg hr, List.append_nil] at HNX
        rw [← HNX.out] at hsb
        rw [he] at HADD
        rw [decide_eq_false hr] at HRT
        have HSB5 := Lib.hid hsb
        have HFL5 := Lib.hid (show fnsOf l = foundL (rightL (ls.take (j + 1))) 13 by rw [HNX.out]; exact HFL.out)
        clear he hsb hr
        go_wp2_with (fail)
        refine HADD.out.mono ?_
        rintro e w5 ⟨rfl, hd, hst⟩
        have HD5 := Lib.hid hd
        have HW5 := Lib.hid (HWN.out.stays hst)
        obtain ⟨r0, r1, r2, r3, r4, r5, r6⟩ := HCL.out w5 HD5.out.low
        clear hd hst q0 q1 q2 q3 q4 q5 q6
        go_wp2_with (fail)
        refine (HRT.out w5 HD5.out.low).mono ?_
        rintro e w6 ⟨rfl, hg⟩
        have hg6 : Grows w5 w6 := hg
        have HD6 := Lib.hid (HD5.out.grow hg6)
        have HW6 := Lib.hid (HW5.out.grow hg6)
        clear hg hg6 r0 r1 r2 r3 r4 r5 r6
        go_wp2_with (fail)
        exact ⟨⟨j + 1, _, A, q, c, l, out, HLT.out, by have := HK.out; omega, rfl, rfl, HD6, HSB5, HW6, HFL5⟩, less_oneS HLT.out⟩
      obtain ⟨he, hsb⟩ := HSB.out.right HK.out.2.1 hr
      rw [if_pos hr] at HNX
      have hsz := hsb.sg.size
      rw [← HNX.out] at hsb
      have hlen : (segB k (rightL (ls.take j) ++ [o])).length = (segB k (rightL (ls.take j))).length + (frS o).length := by rw [segB_snoc, List.length_append]
      have hfl : foundL (rightL (ls.take (j + 1))) 13 = foundL (rightL (ls.take j)) 13 ++ [((segB k (rightL (ls.take j))).length, (frS o).length, o)] := by rw [HNX.out, foundL_snoc, segB_length]
      have hub : (segB k (rightL (ls.take j))).length ≤ 900000 := by
        have h1 := HSB.out.len
        have h2 := HK.out
        omega
      have hfs := frS_small o
      have h13 : 13 ≤ (segB k (rightL (ls.take j))).length := by rw [segB_length]; omega
      obtain ⟨aa, haa⟩ : ∃ aa, (segB k (rightL (ls.take j))).length = aa := ⟨_, rfl⟩
      obtain ⟨fs, hfse⟩ : ∃ fs, (frS o).length = fs := ⟨_, rfl⟩
      rw [haa] at he hlen hfl hub h13
      rw [hfse] at he hlen hfl hfs
      rw [hlen] at hsz
      rw [he] at HADD
      rw [decide_eq_true hr] at HRT
      have HSB5 := Lib.hid hsb
      have HFE := Lib.hid hfl
      have hsum : IntKind.i64.wrap ((aa : Int) + (fs : Int)) = ((aa + fs : Nat) : Int) := by rw [IntWalk.i64_in _ (by omega)]; omega
      have hne : ((aa : Int) != 0) = true := by rw [bne_iff_ne]; omega
      have HSZ := Lib.hid hsz
      have HAF := Lib.hid (show aa ≤ 900000 ∧ fs ≤ 8200 ∧ 13 ≤ aa by omega)
      clear he hsb hr hlen hfl hsz haa hfse hub hfs h13
      go_wp2_with (fail)
      refine HADD.out.mono ?_
      rintro e w5 ⟨rfl, hd, hst⟩
      have HD5 := Lib.hid hd
      have HW5 := Lib.hid (HWN.out.stays hst)
      obtain ⟨r0, r1, r2, r3, r4, r5, r6⟩ := HCL.out w5 HD5.out.low
      clear hd hst q0 q1 q2 q3 q4 q5 q6
      go_wp2_with (fail)
      refine (HRT.out w5 HD5.out.low).mono ?_
      rintro e w6 ⟨rfl, hg⟩
      have hg6 : Grows w5 w6 := hg
      have HD6 := Lib.hid (HD5.out.grow hg6)
      have HW6 := Lib.hid (HW5.out.grow hg6)
      clear hg hg6 r0 r1 r2 r3 r4 r5 r6
      go_wp2_with (fail)
      refine (segSizeOf_any w6 k HD6.out HSZ.out).mono ?_
      rintro e w7 ⟨rfl, hg7⟩
      have HD7 := Lib.hid (HD6.out.grow hg7)
      have HW7 := Lib.hid (HW6.out.grow hg7)
      obtain ⟨r0, r1, r2, r3, r4, r5, r6⟩ := HCL.out w7 HD7.out.low
      clear hg7
      have hfe : fnE ((aa, fs, o), (LA, ln, lc), (BA, bn, bc)) = [.int .i64 (aa : Nat), .int .i64 (fs : Nat), .int .i64 k0, .string s, .int .i64 i0, .int .i64 n9, .int .i64 z0, .slice LA ln lc, .slice BA bn bc] := by
        unfold fnE
        dsimp only
        rw [HEQ.out.1, HEQ.out.2.1, HEQ.out.2.2.1, HEQ.out.2.2.2.1, HEQ.out.2.2.2.2]
      have hrow := fn_row w7 ((aa, fs, o), (LA, ln, lc), (BA, bn, bc))
      have hone := fnE_one ((aa, fs, o), (LA, ln, lc), (BA, bn, bc))
      rw [hfe] at hrow hone
      have HFX := Lib.hid (And.intro hfe (And.intro hrow hone))
      have HOW := Lib.hid (HW7.out.grow (grows_alloc w7 (.cells #[.int .i64 (aa : Nat), .int .i64 (fs : Nat), .int .i64 k0, .string s, .int .i64 i0, .int .i64 n9, .int .i64 z0, .slice LA ln lc, .slice BA bn bc] 58)))
      have HDX := Lib.hid (HD7.out.grow (grows_alloc w7 (.cells #[.int .i64 (aa : Nat), .int .i64 (fs : Nat), .int .i64 k0, .string s, .int .i64 i0, .int .i64 n9, .int .i64 z0, .slice LA ln lc, .slice BA bn bc] 58)))
      clear hfe hrow hone
      go_wp2_with (first
        | (at_builtin
           refine list_append_at rfl (.tmp 106) (.tmp 114) 49 rfl w.heap.size 58 i1 (.agg #[.int .i64 0, .int .i64 0, .int .i64 0, .string ⟨#[]⟩, .int .i64 0, .int .i64 0, .int .i64 0, .slice none 0 0, .slice none 0 0]) 9 112 Try.underlying49 HI1.out.1 HI1.out.2.1 HI1.out.2.2.1 HI1.out.2.2.2 rfl (by decide) rfl
             HOW.out.own rfl HFX.out.2.1 (fun h => by cases h) HFX.out.2.2 (q + 1) rfl (by unfold maxLen; have := HK.out; omega) (by have := HK.out; omega) HDX.out.size ?_
           intro A9 c9 w9 hown9 hgrow9 hat9
           have HO9 := Lib.hid (And.intro hown9 (And.intro hgrow9 hat9))
           clear hown9 hgrow9 hat9)
        | fail)
      obtain ⟨hown9, hgrow9, hat9⟩ := HO9.out
      rw [← HFX.out.1] at hown9
      have hw9 := HOW.out.snoc (out' := fun k => out k ∨ ((w7.alloc (.cells #[.int .i64 (aa : Nat), .int .i64 (fs : Nat), .int .i64 k0, .string s, .int .i64 i0, .int .i64 n9, .int .i64 z0, .slice LA ln lc, .slice BA bn bc] 58)).heap.size ≤ k ∧ k < w9.heap.size)) (p := ((aa, fs, o), (LA, ln, lc), (BA, bn, bc))) HIN.out hown9 hat9 (fun hv => .inr ⟨Nat.le_refl _, hv⟩) (fun k hk => .inl hk)
      exact ⟨⟨j + 1, _, A9, q + 1, c9, l ++ [((aa, fs, o), (LA, ln, lc), (BA, bn, bc))], _, HLT.out, by have := HK.out; omega, rfl, rfl, Lib.hid (HDX.out.grown hgrow9 HOW.out.mine HOW.out.low), HSB5, Lib.hid hw9, Lib.hid (by
        unfold fnsOf
        rw [List.map_append, HFE.out, ← HFL.out]
        rfl)⟩, less_oneS HLT.out⟩
    · obtain rfl : j = n0 := by omega
      have hlt' : ¬ ((j : Int) < (j : Int)) := by omega
      obtain ⟨wb, rfl⟩ : ∃ x, x = wr := ⟨_, rfl⟩
      rw [List.take_of_length_le (by rw [HL.out.len]; exact Nat.le_refl _)] at HSB HFL
      have HK := Lib.hid (show 8202 + 8200 * j ≤ 900000 ∧ j ≤ 100 ∧ q ≤ j by omega)
      have hrr : ∀ r ∈ rightL ls, RightR r := rightL_right
      obtain ⟨rs, hrs⟩ : ∃ rs, rightL ls = rs := ⟨_, rfl⟩
      rw [hrs] at HSB HFL hrr
      have HRR := Lib.hid hrr
      clear hrs hrr
      go_wp2_with (fail)
      go_loopw [13] (fun vi wx => ∃ (i : Nat), i ≤ q ∧ vi = .int .i64 (i : Nat) ∧ Hid (Grows wb wx)) (fun i _ => q - (intOf i).toNat)
      case atStart => exact ⟨0, Nat.zero_le _, rfl, Lib.hid (Grows.refl _)⟩
      case round =>
        obtain ⟨i, hi, rfl, HG⟩ := hrel
        by_cases hlt : i < q
        · have hlt' : (i : Int) < (q : Int) := by omega
          have hj0 : (0 : Int) ≤ (i : Int) := by omega
          have hwj : IntKind.i64.wrap ((i : Int) + 1) = (i : Int) + 1 := IntWalk.i64_in _ (by have := HK.out; omega)
          have hfn := HWN.out.fnds HW.out.low
          obtain ⟨x, hx⟩ : ∃ x, l[i]? = some x := ⟨_, List.getElem?_eq_getElem (by rw [HWN.out.len]; exact hlt)⟩
          obtain ⟨g, rfl, hg, kc⟩ := hfn.row.spot i x hx
          have hrx := hfn.recs x (List.mem_of_getElem? hx)
          have hxf : (foundL rs 13)[i]? = some x.1 := by rw [← HFL.out]; unfold fnsOf; rw [List.getElem?_map, hx]; rfl
          obtain ⟨us, r, bs, hrs, hal, hxe⟩ := foundL_at rs i 13 x.1 hxf
          have HPV := Lib.hid (show 0 < i → ∃ y0 y1 : Nat, (∀ w', Grows wb w' → w'.cell? { block := g, off := (i - 1) * 9 } = some (.int .i64 (y0 : Nat)) ∧ w'.cell? { block := g, off := (i - 1) * 9 + 1 } = some (.int .i64 (y1 : Nat))) ∧ x.1.1 = y0 + y1 from fun h0 => by
            obtain ⟨y, hy⟩ : ∃ y, l[i - 1]? = some y := ⟨_, List.getElem?_eq_getElem (by rw [HWN.out.len]; omega)⟩
            obtain ⟨g', hgg, hg', ky⟩ := hfn.row.spot (i - 1) y hy
            injection hgg with hgg
            injection hgg with hgg _ _
            subst hgg
            have hyf : (foundL rs 13)[i - 1]? = some y.1 := by rw [← HFL.out]; unfold fnsOf; rw [List.getElem?_map, hy]; rfl
            have hxf' : (foundL rs 13)[i - 1 + 1]? = some x.1 := by rw [show i - 1 + 1 = i by omega]; exact hxf
            refine ⟨y.1.1, y.1.2.1, fun w' hC => ?_, foundL_next rs (i - 1) 13 hyf hxf'⟩
            have key : ∀ t, t < 9 → w'.cell? ⟨g, (i - 1) * 9 + t, none⟩ = (fnE y)[t]? := fun t ht => (hC.cell (show (⟨g, (i - 1) * 9 + t, none⟩ : Addr).block < wb.heap.size from hg)).trans (ky t ht)
            exact ⟨key 0 (by omega), key 1 (by omega)⟩)
          obtain ⟨⟨x0, x1, r1⟩, ⟨L1, a1, b1⟩, ⟨B1, d1, e1⟩⟩ := x
          dsimp only at hrx hxe HPV
          injection hxe with hx0 hxe
          injection hxe with hx1 hxr
          subst hxr
          have hgp : getP m k (x0 : Nat) = (r1, 0) := by rw [hx0]; exact (hrs ▸ HSB.out : SB m k (us ++ r1 :: bs) _).get
          have hxb : x0 ≤ 900000 := by
            have h1 := HSB.out.len
            rw [segB_length] at h1
            have h2 : (bytesL rs).length = (bytesL us).length + (bytesL (r1 :: bs)).length := by
              rw [hrs]
              unfold bytesL
              rw [List.map_append, putL_append, List.length_append]
            have h3 := HK.out
            omega
          have hget := segGet_any wr k (x0 : Nat) (HW.out.grow HG.out) HSB.out.ok (by have := HK.out; omega) (by omega)
          rw [hgp] at hget
          have HGET := Lib.hid hget
          have HC1 := Lib.hid (show ∀ w', Grows wb w' → w'.cell? { block := g, off := i * 9 } = some (.int .i64 (x0 : Nat)) ∧ w'.cell? { block := g, off := i * 9 + 1 } = some (.int .i64 (x1 : Nat)) ∧ w'.cell? { block := g, off := i * 9 + 2 } = some (.int .i64 r1.kind) ∧ w'.cell? { block := g, off := i * 9 + 3 } = some (.string ⟨r1.key.toArray⟩) ∧ w'.cell? { block := g, off := i * 9 + 4 } = some (.int .i64 r1.id) ∧ w'.cell? { block := g, off := i * 9 + 5 } = some (.int .i64 r1.no) ∧ w'.cell? { block := g, off := i * 9 + 6 } = some (.int .i64 r1.size) ∧ w'.cell? { block := g, off := i * 9 + 7 } = some (.slice L1 a1 b1) ∧ w'.cell? { block := g, off := i * 9 + 8 } = some (.slice B1 d1 e1) from fun w' hC => by
            have key : ∀ t, t < 9 → w'.cell? ⟨g, i * 9 + t, none⟩ = (fnE ((x0, x1, r1), (L1, a1, b1), (B1, d1, e1)))[t]? := fun t ht => (hC.cell (show (⟨g, i * 9 + t, none⟩ : Addr).block < wb.heap.size from hg)).trans (kc t ht)
            exact ⟨key 0 (by omega), key 1 (by omega), key 2 (by omega), key 3 (by omega), key 4 (by omega), key 5 (by omega), key 6 (by omega), key 7 (by omega), key 8 (by omega)⟩)
          have HRX := Lib.hid (And.intro hrx (loc_small (HRR.out r1 (by rw [hrs]; exact List.mem_append_right _ (List.mem_cons_self ..)))))
          have HLT := Lib.hid hlt
          have HXB := Lib.hid hxb
          have z0 := (HC1.out wr HG.out).1
          clear hfn hx hg kc hrx hxf hrs hal hx0 hx1 hgp hget hxb hlt
          go_wp2_with (fail)
          refine HGET.out.mono ?_
          rintro e w5 ⟨LA, ln, lc, BA, bn, bc, rfl, hin, hg5⟩
          have hm6 := Whole.made w5 52 #[.int .i64 r1.kind, .string ⟨r1.key.toArray⟩, .int .i64 r1.id, .int .i64 r1.no, .int .i64 r1.size, .slice LA ln lc, .slice BA bn bc]
          have hg6 := grows_alloc w5 (.cells #[.int .i64 r1.kind, .string ⟨r1.key.toArray⟩, .int .i64 r1.id, .int .i64 r1.no, .int .i64 r1.size, .slice LA ln lc, .slice BA bn bc] 52)
          have HIN := Lib.hid (And.intro (hin.grow hg6) hin.locs.len)
          have HM6 := Lib.hid hm6
          have HG6 := Lib.hid (Grows.trans HG.out (Grows.trans hg5 hg6))
          clear hin hg5 hg6 hm6 z0
          unfold rcV
          go_wp2_with (fail)
          obtain ⟨w6, hw6⟩ : ∃ w6, w5.alloc (.cells #[.int .i64 r1.kind, .string ⟨r1.key.toArray⟩, .int .i64 r1.id, .int .i64 r1.no, .int .i64 r1.size, .slice LA ln lc, .slice BA bn bc] 52) = w6 := ⟨_, rfl⟩
          rw [hw6] at HIN HM6 HG6
          rw [hw6]
          clear hw6
          have HC6 := Lib.hid (show ∀ w', Grows w6 w' → w'.cell? { block := w5.heap.size, off := 0 } = some (.int .i64 r1.kind) ∧ w'.cell? { block := w5.heap.size, off := 1 } = some (.string ⟨r1.key.toArray⟩) ∧ w'.cell? { block := w5.heap.size, off := 2 } = some (.int .i64 r1.id) ∧ w'.cell? { block := w5.heap.size, off := 3 } = some (.int .i64 r1.no) ∧ w'.cell? { block := w5.heap.size, off := 4 } = some (.int .i64 r1.size) ∧ w'.cell? { block := w5.heap.size, off := 5 } = some (.slice LA ln lc) ∧ w'.cell? { block := w5.heap.size, off := 6 } = some (.slice BA bn bc) from fun w' hC => by
            have hx := hC.whole HM6.out
            exact ⟨hx.cell 0, hx.cell 1, hx.cell 2, hx.cell 3, hx.cell 4, hx.cell 5, hx.cell 6⟩)
          have HC1 := Lib.hid (fun w' (hC : Grows w6 w') => HC1.out w' (Grows.trans HG6.out hC))
          have hsa := fun w' (hC : Grows w6 w') => same_any r1 r1 LA ln lc BA bn bc L1 a1 b1 B1 d1 e1 w' (HIN.out.1.grow hC) (HRX.out.1.grow (Grows.trans HG6.out hC)) (by have h1 := HIN.out.2; have h2 := HRX.out.2; omega)
          simp only [decide_true] at hsa
          have HSA := Lib.hid hsa
          clear hsa
          by_cases hi0 : i = 0
          · subst hi0
            simp only [Nat.zero_mul, Nat.zero_add] at HC1
            have hq0 : (0 : Int) < (q : Int) := by have := HLT.out; omega
            have hqp : 0 < q := by have := HLT.out; omega
            have hqz : ¬ q = 0 := by omega
            refine wp_region_facts (E := Grows) [valFact (.int .i64 0), valFact (.bool false), valFact (.bool false), valFact (.agg #[.int .i64 r1.kind, .string ⟨r1.key.toArray⟩, .int .i64 r1.id, .int .i64 r1.no, .int .i64 r1.size, .slice LA ln lc, .slice BA bn bc]), valFact (.slice (some ⟨g, 0, none⟩) q c), valFact (.int .i64 0), valFact (.pointer (some ⟨g, 0, none⟩)), valFact (.pointer (some ⟨g, 2, none⟩)), valFact (.agg #[.int .i64 r1.kind, .string ⟨r1.key.toArray⟩, .int .i64 r1.id, .int .i64 r1.no, .int .i64 r1.size, .slice L1 a1 b1, .slice B1 d1 e1]), valFact (.bool true), valFact (.bool false), valFact (.bool false), valFact (.bool false), valFact (.int .i64 0), valFact (.bool false), valFact (.bool false), valFact undef, valFact undef, valFact undef, valFact undef, valFact undef, valFact undef, valFact undef, valFact undef, valFact undef, valFact undef, valFact undef, valFact undef, valFact undef, valFact undef, valFact undef, valFact undef, valFact undef, valFact undef, valFact undef, valFact (.bool false), valFact (.bool false)] (by kernel_rfl) (by kernel_rfl) (fun _ _ _ => Grows.trans) (grows_drew _) ?_
            refine f_val (.int .i64 0) (by rfl) ?_ ?_
            · intro w' hC; clear hC; first | (go_simp; done)
            simp only [Act.put, List.setIfInBounds_toArray, List.set_cons_zero, List.set_cons_succ]
            refine f_val (.bool false) (by rfl) ?_ ?_
            · intro w' hC; clear hC; first | (go_simp; done)
            simp only [Act.put, List.setIfInBounds_toArray, List.set_cons_zero, List.set_cons_succ]
            refine f_val (.bool false) (by rfl) ?_ ?_
            · intro w' hC; clear hC; first | (go_simp; done)
            simp only [Act.put, List.setIfInBounds_toArray, List.set_cons_zero, List.set_cons_succ]
            refine f_val (.agg #[.int .i64 r1.kind, .string ⟨r1.key.toArray⟩, .int .i64 r1.id, .int .i64 r1.no, .int .i64 r1.size, .slice LA ln lc, .slice BA bn bc]) (by rfl) ?_ ?_
            · intro w' hC; obtain ⟨z0, z1, z2, z3, z4, z5, z6⟩ := HC6.out w' hC; clear hC; first | (go_simp; done)
            simp only [Act.put, List.setIfInBounds_toArray, List.set_cons_zero, List.set_cons_succ]
            refine f_val (.slice (some ⟨g, 0, none⟩) q c) (by rfl) ?_ ?_
            · intro w' hC; clear hC; first | (go_simp; done)
            simp only [Act.put, List.setIfInBounds_toArray, List.set_cons_zero, List.set_cons_succ]
            refine f_val (.int .i64 0) (by rfl) ?_ ?_
            · intro w' hC; clear hC; first | (go_simp; done)
            simp only [Act.put, List.setIfInBounds_toArray, List.set_cons_zero, List.set_cons_succ]
            refine f_val (.pointer (some ⟨g, 0, none⟩)) (by rfl) ?_ ?_
            · intro w' hC; clear hC; first | (go_simp; done)
            simp only [Act.put, List.setIfInBounds_toArray, List.set_cons_zero, List.set_cons_succ]
            refine f_val (.pointer (some ⟨g, 2, none⟩)) (by rfl) ?_ ?_
            · intro w' hC; clear hC; first | (go_simp; done)
            simp only [Act.put, List.setIfInBounds_toArray, List.set_cons_zero, List.set_cons_succ]
            refine f_val (.agg #[.int .i64 r1.kind, .string ⟨r1.key.toArray⟩, .int .i64 r1.id, .int .i64 r1.no, .int .i64 r1.size, .slice L1 a1 b1, .slice B1 d1 e1]) (by rfl) ?_ ?_
            · intro w' hC; obtain ⟨z0, z1, z2, z3, z4, z5, z6, z7, z8⟩ := HC1.out w' hC; clear hC; first | (go_simp; done)
            simp only [Act.put, List.setIfInBounds_toArray, List.set_cons_zero, List.set_cons_succ]
            refine f_call 32 #[.agg #[.int .i64 r1.kind, .string ⟨r1.key.toArray⟩, .int .i64 r1.id, .int .i64 r1.no, .int .i64 r1.size, .slice LA ln lc, .slice BA bn bc], .agg #[.int .i64 r1.kind, .string ⟨r1.key.toArray⟩, .int .i64 r1.id, .int .i64 r1.no, .int .i64 r1.size, .slice L1 a1 b1, .slice B1 d1 e1]] (.bool true) (by rfl) (by intro w' hC; clear hC; go_simp) ?_ ?_
            · intro w' hC hks; exact (HSA.out w' hC).mono fun e w'' hh => ⟨hh.1, hh.2⟩
            simp only [Act.put, List.setIfInBounds_toArray, List.set_cons_zero, List.set_cons_succ]
            refine f_val (.bool false) (by rfl) ?_ ?_
            · intro w' hC; clear hC; first | (go_simp; done)
            simp only [Act.put, List.setIfInBounds_toArray, List.set_cons_zero, List.set_cons_succ]
            refine f_val (.bool false) (by rfl) ?_ ?_
            · intro w' hC; clear hC; first | (go_simp; done)
            simp only [Act.put, List.setIfInBounds_toArray, List.set_cons_zero, List.set_cons_succ]
            refine f_val (.bool false) (by rfl) ?_ ?_
            · intro w' hC; clear hC; first | (go_simp; done)
            simp only [Act.put, List.setIfInBounds_toArray, List.set_cons_zero, List.set_cons_succ]
            refine f_val (.int .i64 0) (by rfl) ?_ ?_
            · intro w' hC; clear hC; first | (go_simp; done)
            simp only [Act.put, List.setIfInBounds_toArray, List.set_cons_zero, List.set_cons_succ]
            refine f_val (.bool false) (by rfl) ?_ ?_
            · intro w' hC; clear hC; first | (go_simp; done)
            simp only [Act.put, List.setIfInBounds_toArray, List.set_cons_zero, List.set_cons_succ]
            refine f_val (.bool false) (by rfl) ?_ ?_
            · intro w' hC; clear hC; first | (go_simp; done)
            simp only [Act.put, List.setIfInBounds_toArray, List.set_cons_zero, List.set_cons_succ]
            refine f_skip (by rfl) ?_
            simp only [Act.put, List.setIfInBounds_toArray, List.set_cons_zero, List.set_cons_succ]
            refine f_skip (by rfl) ?_
            simp only [Act.put, List.setIfInBounds_toArray, List.set_cons_zero, List.set_cons_succ]
            refine f_skip (by rfl) ?_
            simp only [Act.put, List.setIfInBounds_toArray, List.set_cons_zero, List.set_cons_succ]
            refine f_skip (by rfl) ?_
            simp only [Act.put, List.setIfInBounds_toArray, List.set_cons_zero, List.set_cons_succ]
            refine f_skip (by rfl) ?_
            simp only [Act.put, List.setIfInBounds_toArray, List.set_cons_zero, List.set_cons_succ]
            refine f_skip (by rfl) ?_
            simp only [Act.put, List.setIfInBounds_toArray, List.set_cons_zero, List.set_cons_succ]
            refine f_skip (by rfl) ?_
            simp only [Act.put, List.setIfInBounds_toArray, List.set_cons_zero, List.set_cons_succ]
            refine f_skip (by rfl) ?_
            simp only [Act.put, List.setIfInBounds_toArray, List.set_cons_zero, List.set_cons_succ]
            refine f_skip (by rfl) ?_
            simp only [Act.put, List.setIfInBounds_toArray, List.set_cons_zero, List.set_cons_succ]
            refine f_skip (by rfl) ?_
            simp only [Act.put, List.setIfInBounds_toArray, List.set_cons_zero, List.set_cons_succ]
            refine f_skip (by rfl) ?_
            simp only [Act.put, List.setIfInBounds_toArray, List.set_cons_zero, List.set_cons_succ]
            refine f_skip (by rfl) ?_
            simp only [Act.put, List.setIfInBounds_toArray, List.set_cons_zero, List.set_cons_succ]
            refine f_skip (by rfl) ?_
            simp only [Act.put, List.setIfInBounds_toArray, List.set_cons_zero, List.set_cons_succ]
            refine f_skip (by rfl) ?_
            simp only [Act.put, List.setIfInBounds_toArray, List.set_cons_zero, List.set_cons_succ]
            refine f_skip (by rfl) ?_
            simp only [Act.put, List.setIfInBounds_toArray, List.set_cons_zero, List.set_cons_succ]
            refine f_skip (by rfl) ?_
            simp only [Act.put, List.setIfInBounds_toArray, List.set_cons_zero, List.set_cons_succ]
            refine f_skip (by rfl) ?_
            simp only [Act.put, List.setIfInBounds_toArray, List.set_cons_zero, List.set_cons_succ]
            refine f_skip (by rfl) ?_
            simp only [Act.put, List.setIfInBounds_toArray, List.set_cons_zero, List.set_cons_succ]
            refine f_skip (by rfl) ?_
            simp only [Act.put, List.setIfInBounds_toArray, List.set_cons_zero, List.set_cons_succ]
            refine f_val (.bool false) (by rfl) ?_ ?_
            · intro w' hC; clear hC; first | (go_simp; done)
            simp only [Act.put, List.setIfInBounds_toArray, List.set_cons_zero, List.set_cons_succ]
            refine f_val (.bool false) (by rfl) ?_ ?_
            · intro w' hC; clear hC; first | (go_simp; done)
            simp only [Act.put, List.setIfInBounds_toArray, List.set_cons_zero, List.set_cons_succ]
            refine wpF_end ?_
            intro w9 hC hks
            have HCw9 := Lib.hid hC
            clear hC hks
            go_wp2_with (fail)
            exact ⟨⟨0 + 1, HLT.out, rfl, Lib.hid (Grows.trans HG6.out HCw9.out)⟩, less_oneS HLT.out⟩
          · obtain ⟨y0, y1, hc2, hxy⟩ := HPV.out (by omega)
            have HC2 := Lib.hid (fun w' (hC : Grows w6 w') => hc2 w' (Grows.trans HG6.out hC))
            have hip : (0 : Int) < (i : Int) := by omega
            have hipn : 0 < i := by omega
            have him : IntKind.i64.wrap ((i : Int) - 1) = ((i - 1 : Nat) : Int) := by rw [IntWalk.i64_in _ (by have := HK.out; omega)]; omega
            have hil : ((i - 1 : Nat) : Int) < (q : Int) := by omega
            have hin0 : (0 : Int) ≤ ((i - 1 : Nat) : Int) := by omega
            have hsum : IntKind.i64.wrap ((y0 : Int) + (y1 : Int)) = (x0 : Int) := by rw [IntWalk.i64_in _ (by have := HXB.out; omega)]; omega
            clear hc2 hxy hi0
            refine wp_region_facts (E := Grows) [valFact (.int .i64 0), valFact (.bool false), valFact (.bool false), valFact (.agg #[.int .i64 r1.kind, .string ⟨r1.key.toArray⟩, .int .i64 r1.id, .int .i64 r1.no, .int .i64 r1.size, .slice LA ln lc, .slice BA bn bc]), valFact (.slice (some ⟨g, 0, none⟩) q c), valFact (.int .i64 (i : Nat)), valFact (.pointer (some ⟨g, i * 9, none⟩)), valFact (.pointer (some ⟨g, i * 9 + 2, none⟩)), valFact (.agg #[.int .i64 r1.kind, .string ⟨r1.key.toArray⟩, .int .i64 r1.id, .int .i64 r1.no, .int .i64 r1.size, .slice L1 a1 b1, .slice B1 d1 e1]), valFact (.bool true), valFact (.bool false), valFact (.bool false), valFact (.bool false), valFact (.int .i64 (i : Nat)), valFact (.bool true), valFact (.bool true), valFact (.slice (some ⟨g, 0, none⟩) q c), valFact (.int .i64 (i : Nat)), valFact (.pointer (some ⟨g, i * 9, none⟩)), valFact (.pointer (some ⟨g, i * 9, none⟩)), valFact (.int .i64 (x0 : Nat)), valFact (.slice (some ⟨g, 0, none⟩) q c), valFact (.int .i64 (i : Nat)), valFact (.int .i64 ((i - 1 : Nat) : Int)), valFact (.pointer (some ⟨g, (i - 1) * 9, none⟩)), valFact (.pointer (some ⟨g, (i - 1) * 9, none⟩)), valFact (.int .i64 (y0 : Nat)), valFact (.slice (some ⟨g, 0, none⟩) q c), valFact (.int .i64 (i : Nat)), valFact (.int .i64 ((i - 1 : Nat) : Int)), valFact (.pointer (some ⟨g, (i - 1) * 9, none⟩)), valFact (.pointer (some ⟨g, (i - 1) * 9 + 1, none⟩)), valFact (.int .i64 (y1 : Nat)), valFact (.int .i64 (x0 : Nat)), valFact (.bool false), valFact (.bool false), valFact (.bool false)] (by kernel_rfl) (by kernel_rfl) (fun _ _ _ => Grows.trans) (grows_drew _) ?_
            refine f_val (.int .i64 0) (by rfl) ?_ ?_
            · intro w' hC; clear hC; first | (go_simp; done)
            simp only [Act.put, List.setIfInBounds_toArray, List.set_cons_zero, List.set_cons_succ]
            refine f_val (.bool false) (by rfl) ?_ ?_
            · intro w' hC; clear hC; first | (go_simp; done)
            simp only [Act.put, List.setIfInBounds_toArray, List.set_cons_zero, List.set_cons_succ]
            refine f_val (.bool false) (by rfl) ?_ ?_
            · intro w' hC; clear hC; first | (go_simp; done)
            simp only [Act.put, List.setIfInBounds_toArray, List.set_cons_zero, List.set_cons_succ]
            refine f_val (.agg #[.int .i64 r1.kind, .string ⟨r1.key.toArray⟩, .int .i64 r1.id, .int .i64 r1.no, .int .i64 r1.size, .slice LA ln lc, .slice BA bn bc]) (by rfl) ?_ ?_
            · intro w' hC; obtain ⟨z0, z1, z2, z3, z4, z5, z6⟩ := HC6.out w' hC; clear hC; first | (go_simp; done)
            simp only [Act.put, List.setIfInBounds_toArray, List.set_cons_zero, List.set_cons_succ]
            refine f_val (.slice (some ⟨g, 0, none⟩) q c) (by rfl) ?_ ?_
            · intro w' hC; clear hC; first | (go_simp; done)
            simp only [Act.put, List.setIfInBounds_toArray, List.set_cons_zero, List.set_cons_succ]
            refine f_val (.int .i64 (i : Nat)) (by rfl) ?_ ?_
            · intro w' hC; clear hC; first | (go_simp; done)
            simp only [Act.put, List.setIfInBounds_toArray, List.set_cons_zero, List.set_cons_succ]
            refine f_val (.pointer (some ⟨g, i * 9, none⟩)) (by rfl) ?_ ?_
            · intro w' hC; clear hC; first | (go_simp; done)
            simp only [Act.put, List.setIfInBounds_toArray, List.set_cons_zero, List.set_cons_succ]
            refine f_val (.pointer (some ⟨g, i * 9 + 2, none⟩)) (by rfl) ?_ ?_
            · intro w' hC; clear hC; first | (go_simp; done)
            simp only [Act.put, List.setIfInBounds_toArray, List.set_cons_zero, List.set_cons_succ]
            refine f_val (.agg #[.int .i64 r1.kind, .string ⟨r1.key.toArray⟩, .int .i64 r1.id, .int .i64 r1.no, .int .i64 r1.size, .slice L1 a1 b1, .slice B1 d1 e1]) (by rfl) ?_ ?_
            · intro w' hC; obtain ⟨z0, z1, z2, z3, z4, z5, z6, z7, z8⟩ := HC1.out w' hC; clear hC; first | (go_simp; done)
            simp only [Act.put, List.setIfInBounds_toArray, List.set_cons_zero, List.set_cons_succ]
            refine f_call 32 #[.agg #[.int .i64 r1.kind, .string ⟨r1.key.toArray⟩, .int .i64 r1.id, .int .i64 r1.no, .int .i64 r1.size, .slice LA ln lc, .slice BA bn bc], .agg #[.int .i64 r1.kind, .string ⟨r1.key.toArray⟩, .int .i64 r1.id, .int .i64 r1.no, .int .i64 r1.size, .slice L1 a1 b1, .slice B1 d1 e1]] (.bool true) (by rfl) (by intro w' hC; clear hC; go_simp) ?_ ?_
            · intro w' hC hks; exact (HSA.out w' hC).mono fun e w'' hh => ⟨hh.1, hh.2⟩
            simp only [Act.put, List.setIfInBounds_toArray, List.set_cons_zero, List.set_cons_succ]
            refine f_val (.bool false) (by rfl) ?_ ?_
            · intro w' hC; clear hC; first | (go_simp; done)
            simp only [Act.put, List.setIfInBounds_toArray, List.set_cons_zero, List.set_cons_succ]
            refine f_val (.bool false) (by rfl) ?_ ?_
            · intro w' hC; clear hC; first | (go_simp; done)
            simp only [Act.put, List.setIfInBounds_toArray, List.set_cons_zero, List.set_cons_succ]
            refine f_val (.bool false) (by rfl) ?_ ?_
            · intro w' hC; clear hC; first | (go_simp; done)
            simp only [Act.put, List.setIfInBounds_toArray, List.set_cons_zero, List.set_cons_succ]
            refine f_val (.int .i64 (i : Nat)) (by rfl) ?_ ?_
            · intro w' hC; clear hC; first | (go_simp; done)
            simp only [Act.put, List.setIfInBounds_toArray, List.set_cons_zero, List.set_cons_succ]
            refine f_val (.bool true) (by rfl) ?_ ?_
            · intro w' hC; clear hC; first | (go_simp; done)
            simp only [Act.put, List.setIfInBounds_toArray, List.set_cons_zero, List.set_cons_succ]
            refine f_val (.bool true) (by rfl) ?_ ?_
            · intro w' hC; clear hC; first | (go_simp; done)
            simp only [Act.put, List.setIfInBounds_toArray, List.set_cons_zero, List.set_cons_succ]
            refine f_val (.slice (some ⟨g, 0, none⟩) q c) (by rfl) ?_ ?_
            · intro w' hC; clear hC; first | (go_simp; done)
            simp only [Act.put, List.setIfInBounds_toArray, List.set_cons_zero, List.set_cons_succ]
            refine f_val (.int .i64 (i : Nat)) (by rfl) ?_ ?_
            · intro w' hC; clear hC; first | (go_simp; done)
            simp only [Act.put, List.setIfInBounds_toArray, List.set_cons_zero, List.set_cons_succ]
            refine f_val (.pointer (some ⟨g, i * 9, none⟩)) (by rfl) ?_ ?_
            · intro w' hC; clear hC; first | (go_simp; done)
            simp only [Act.put, List.setIfInBounds_toArray, List.set_cons_zero, List.set_cons_succ]
            refine f_val (.pointer (some ⟨g, i * 9, none⟩)) (by rfl) ?_ ?_
            · intro w' hC; clear hC; first | (go_simp; done)
            simp only [Act.put, List.setIfInBounds_toArray, List.set_cons_zero, List.set_cons_succ]
            refine f_val (.int .i64 (x0 : Nat)) (by rfl) ?_ ?_
            · intro w' hC; obtain ⟨z0, z1, z2, z3, z4, z5, z6, z7, z8⟩ := HC1.out w' hC; clear hC; first | (go_simp; done)
            simp only [Act.put, List.setIfInBounds_toArray, List.set_cons_zero, List.set_cons_succ]
            refine f_val (.slice (some ⟨g, 0, none⟩) q c) (by rfl) ?_ ?_
            · intro w' hC; clear hC; first | (go_simp; done)
            simp only [Act.put, List.setIfInBounds_toArray, List.set_cons_zero, List.set_cons_succ]
            refine f_val (.int .i64 (i : Nat)) (by rfl) ?_ ?_
            · intro w' hC; clear hC; first | (go_simp; done)
            simp only [Act.put, List.setIfInBounds_toArray, List.set_cons_zero, List.set_cons_succ]
            refine f_val (.int .i64 ((i - 1 : Nat) : Int)) (by rfl) ?_ ?_
            · intro w' hC; clear hC; first | (go_simp; done)
            simp only [Act.put, List.setIfInBounds_toArray, List.set_cons_zero, List.set_cons_succ]
            refine f_val (.pointer (some ⟨g, (i - 1) * 9, none⟩)) (by rfl) ?_ ?_
            · intro w' hC; clear hC; first | (go_simp; done)
            simp only [Act.put, List.setIfInBounds_toArray, List.set_cons_zero, List.set_cons_succ]
            refine f_val (.pointer (some ⟨g, (i - 1) * 9, none⟩)) (by rfl) ?_ ?_
            · intro w' hC; clear hC; first | (go_simp; done)
            simp only [Act.put, List.setIfInBounds_toArray, List.set_cons_zero, List.set_cons_succ]
            refine f_val (.int .i64 (y0 : Nat)) (by rfl) ?_ ?_
            · intro w' hC; obtain ⟨z0, z1⟩ := HC2.out w' hC; clear hC; first | (go_simp; done)
            simp only [Act.put, List.setIfInBounds_toArray, List.set_cons_zero, List.set_cons_succ]
            refine f_val (.slice (some ⟨g, 0, none⟩) q c) (by rfl) ?_ ?_
            · intro w' hC; clear hC; first | (go_simp; done)
            simp only [Act.put, List.setIfInBounds_toArray, List.set_cons_zero, List.set_cons_succ]
            refine f_val (.int .i64 (i : Nat)) (by rfl) ?_ ?_
            · intro w' hC; clear hC; first | (go_simp; done)
            simp only [Act.put, List.setIfInBounds_toArray, List.set_cons_zero, List.set_cons_succ]
            refine f_val (.int .i64 ((i - 1 : Nat) : Int)) (by rfl) ?_ ?_
            · intro w' hC; clear hC; first | (go_simp; done)
            simp only [Act.put, List.setIfInBounds_toArray, List.set_cons_zero, List.set_cons_succ]
            refine f_val (.pointer (some ⟨g, (i - 1) * 9, none⟩)) (by rfl) ?_ ?_
            · intro w' hC; clear hC; first | (go_simp; done)
            simp only [Act.put, List.setIfInBounds_toArray, List.set_cons_zero, List.set_cons_succ]
            refine f_val (.pointer (some ⟨g, (i - 1) * 9 + 1, none⟩)) (by rfl) ?_ ?_
            · intro w' hC; clear hC; first | (go_simp; done)
            simp only [Act.put, List.setIfInBounds_toArray, List.set_cons_zero, List.set_cons_succ]
            refine f_val (.int .i64 (y1 : Nat)) (by rfl) ?_ ?_
            · intro w' hC; obtain ⟨z0, z1⟩ := HC2.out w' hC; clear hC; first | (go_simp; done)
            simp only [Act.put, List.setIfInBounds_toArray, List.set_cons_zero, List.set_cons_succ]
            refine f_val (.int .i64 (x0 : Nat)) (by rfl) ?_ ?_
            · intro w' hC; clear hC; first | (go_simp; done)
            simp only [Act.put, List.setIfInBounds_toArray, List.set_cons_zero, List.set_cons_succ]
            refine f_val (.bool false) (by rfl) ?_ ?_
            · intro w' hC; clear hC; first | (go_simp; done)
            simp only [Act.put, List.setIfInBounds_toArray, List.set_cons_zero, List.set_cons_succ]
            refine f_val (.bool false) (by rfl) ?_ ?_
            · intro w' hC; clear hC; first | (go_simp; done)
            simp only [Act.put, List.setIfInBounds_toArray, List.set_cons_zero, List.set_cons_succ]
            refine f_val (.bool false) (by rfl) ?_ ?_
            · intro w' hC; clear hC; first | (go_simp; done)
            simp only [Act.put, List.setIfInBounds_toArray, List.set_cons_zero, List.set_cons_succ]
            refine wpF_end ?_
            intro w9 hC hks
            have HCw9 := Lib.hid hC
            clear hC hks
            go_wp2_with (fail)
            exact ⟨⟨i + 1, HLT.out, rfl, Lib.hid (Grows.trans HG6.out HCw9.out)⟩, less_oneS HLT.out⟩
        · obtain rfl : i = q := by omega
          have hlt' : ¬ ((i : Int) < (i : Int)) := by omega
          have hall := segAll_any wr k HKB.out (HW.out.grow HG.out) HSB.out.ok (by have := HK.out; omega)
          rw [HSB.out.all] at hall
          have HALL := Lib.hid hall
          clear hall
          go_wp2_with (fail)
          refine HALL.out.mono ?_
          rintro e w8 ⟨GA, gc, gl, rfl, hf, hfl, hg8⟩
          have HG8 := Lib.hid (Grows.trans HG.out hg8)
          have hq : gl.length = i := by
            have h1 := congrArg List.length (hfl.trans HFL.out.symm)
            unfold fnsOf at h1
            rw [List.length_map, List.length_map, HWN.out.len] at h1
            exact h1
          have hsame := sameF_any w8 gl l GA gl.length gc A i c hf.fnds ((HWN.out.fnds HW.out.low).grow HG8.out) (by have := HK.out; omega) (fun p hp => by
            have h1 := (hf.recs p hp).len
            have h2 : p.1 ∈ foundL rs 13 := by rw [← hfl]; exact List.mem_map.2 ⟨p, hp, rfl⟩
            have h3 := loc_small (found_right _ _ HRR.out _ h2)
            omega)
          rw [decide_eq_true (show fnsOf gl = fnsOf l from hfl.trans HFL.out.symm)] at hsame
          have HSAME := Lib.hid hsame
          rw [hq] at HSAME
          rw [hq]
          clear hf hfl hg8 hsame hq
          go_wp2_with (fail)
          refine HSAME.out.mono ?_
          rintro e w9 ⟨rfl, hg9⟩
          have HG9 := Lib.hid (Grows.trans HG8.out hg9)
          clear hg9 HSAME
          go_wp2_with (fail)
          go_ret
          exact ⟨rfl, (HW.out.grow HG9.out).low⟩

set_option maxRecDepth 100000 in
theorem segBack_lifted (os : Os) (started : os.Started) (H : Type) (enc : TypeId × Value → H) :
    ReturnsInHanded {} Try.checked os 6 .any (Rows.segBackSpec.pre6 enc Try.prog Try.f6 Rows.segBackRow.domain false) (Rows.segBackSpec.post enc Try.prog Try.f6 false true false false) := by
  refine lift_law (C := Try.checked) H enc own started (by kernel_rfl) Try.func6
    (ChangeSpec.witness6 (enc := enc) (C := Try.checked) false ⟨#[], #[.int .u32 0, .slice none 0 0], []⟩ 16 (by kernel_rfl) (by kernel_rfl) (by kernel_rfl) (by kernel_rfl))
    laidOut (of_readable (by kernel_rfl)) rfl Try.underlying4 rfl (fun ds hd => ?_) (fun W base args ds p hval hA hsz => ?_)
  · match ds, hd with
    | [d1, d2], _ => rfl
  · rw [Try.params6] at hA hval hsz
    obtain ⟨v0, vs0, d0, ds0, p0, q0, hargs, rfl, rfl, h0, r0⟩ := trodAll_cons hA
    obtain ⟨v1, vs1, d1, ds1, p1, q1, rfl, rfl, rfl, h1, r1⟩ := trodAll_cons r0
    obtain ⟨rfl, rfl, rfl⟩ := trodAll_nil r1
    obtain rfl : args = #[v0, v1] := by cases args; simp_all
    obtain ⟨a0, rfl, _, _, w0⟩ := open_int Try.underlying32 (hval 0 32 v0 rfl rfl) h0
    have b0 := bounds_u32 w0
    obtain ⟨A1, n1, c1, xs1, rfl, hx1⟩ := open_recs (hval 1 47 v1 rfl rfl) h1
    exact segBack_law W a0 (by omega) A1 n1 c1 xs1 hx1

theorem segBack_over : Rows.segBackRow.holds Try.pinned (OpenSpec.ofChange Rows.segBackSpec) :=
  OpenClaim.holds_of_wide 6 Try.f6 rfl rfl rfl rfl rfl rfl rfl ⟨rfl, rfl, rfl, rfl, rfl⟩ rfl rfl rfl rfl rfl (by kernel_rfl) Try.func6 (by kernel_rfl)
    (of_decide_eq_true (by kernel_rfl)) (by unfold Func.isWrapper; first | (rw [if_pos (by decide +kernel)]; kernel_rfl) | (rw [if_neg (by decide +kernel)]; exact ⟨rfl, rfl⟩))
    (fun os started H enc _ => segBack_lifted os started H enc)
theorem segBack_holds : Rows.SegBackSaid := segBack_over
end Go.Proofs.Ytgemjdacnomnhaa
