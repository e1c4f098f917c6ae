/-
  Statement SegTorn: behind a Boot the first ones of what was added are there, as they were, those that were synced at least; no other one is. Any list of records, any number, any list of numbers, no condition.
-/
import Derived.Test.YtgemjdacnomnhaaMS
import Derived.Test.YtgemjdacnomnhaaMV
import Derived.Test.YtgemjdacnomnhaaMG
import Derived.Test.YtgemjdacnomnhaaWalkBits
import Derived.ProofKit
import Derived.ChangeOld
namespace Go.Proofs.Ytgemjdacnomnhaa
open Go.ChangeShapes Go.WideShapes Go.ChangeAt Go.RowKit
set_option linter.unusedSimpArgs false
set_option linter.unusedVariables false
attribute [local irreducible] wpF
theorem nm1 : (⟨(nmS 1).toArray⟩ : ByteArray) = ⟨#[115, 48, 48, 48, 48, 48, 48, 48, 49]⟩ := by kernel_rfl
theorem Fnds.first {w : World} {A : Option Addr} {n K : Nat} {l : List (Fn × Fh)} (h : Fnds w A n l) (hK : K ≤ n) : Fnds w A K (l.take K) :=
  ⟨⟨by rw [List.length_take, h.row.len]; omega, fun i a hi => h.row.spot i a (by rw [List.getElem?_take] at hi; split at hi; exact hi; cases hi)⟩, fun p hp => h.recs p (List.mem_of_mem_take hp)⟩
theorem foundL_take : ∀ (rs : List Rc) (K a : Nat), foundL (rs.take K) a = (foundL rs a).take K
  | [], K, a => by simp [foundL]
  | r :: rs, 0, a => by simp [foundL]
  | r :: rs, K + 1, a => by rw [List.take_succ_cons, foundL, foundL, List.take_succ_cons, foundL_take rs]
set_option maxHeartbeats 16000000 in
set_option maxRecDepth 100000 in
theorem segTorn_law (w : World) (A0 : Option Addr) (n0 c0 : Nat) (ls : List Rc) (hl : Recs w A0 n0 c0 ls) (sy : Int) (hsy : 0 ≤ sy ∧ sy ≤ 255) (A2 : Option Addr) (n2 c2 : Nat) (zs : List Int) (hz : Ints w A2 n2 c2 zs) (hzb : ∀ x ∈ zs, -9223372036854775808 ≤ x ∧ x ≤ 9223372036854775807) :
    Calls Try.prog 7 #[.slice A0 n0 c0, .int .u8 sy, .slice A2 n2 c2] w fun e w' => e = .returned (.bool true) ∧ Below w.heap.size w w' := by
  have HL := Lib.hid hl
  have HZ := Lib.hid (And.intro hz (And.intro hzb hz.block))
  clear hl hz hzb
  have hs1 : IntKind.i64.wrap sy = sy := IntWalk.i64_in _ (by omega)
  obtain ⟨i1, hi1, hz1, hy1, hb1⟩ := info_parts infoFnd
  have HI1 := Lib.hid (And.intro hi1 (And.intro hz1 (And.intro hy1 hb1)))
  clear hi1 hz1 hy1 hb1
  go_enter Try.func7, Try.ntmps7
  go_wp2_with (fail)
  refine (head9_any w).mono ?_
  rintro e w0 ⟨rfl, hb0⟩
  have HB0 := Lib.hid hb0
  clear hb0
  go_wp2_with (fail)
  refine (new_any w0 16777216).mono ?_
  rintro e w1 ⟨d, rfl, hn⟩
  have HD := Lib.hid (show DkIn w.heap.size w w1 d (fun _ => False) Go.Proofs.Ytgemjdacnomnhaa.A0 from DkIn.new hn HB0.out.size HB0.out (fun k h => h.elim))
  clear hn
  by_cases h60 : n0 ≤ 60
  rotate_left 1
  · have h60' : (n0 : Int) > 60 := by omega
    go_wp2_with (fail)
    go_ret
    exact ⟨rfl, HD.out.low⟩
  have h60' : ¬ ((n0 : Int) > 60) := by omega
  by_cases h900 : n2 ≤ 900
  rotate_left 1
  · have h900' : (n2 : Int) > 900 := by omega
    go_wp2_with (fail)
    go_ret
    exact ⟨rfl, HD.out.low⟩
  have h900' : ¬ ((n2 : Int) > 900) := by omega
  have hmk := segMake_any w1 1 (by omega) HD.out A0ok (by omega)
  rw [A1made] at hmk
  have HMK := Lib.hid hmk
  clear hmk
  go_wp2_with (fail)
  refine HMK.out.mono ?_
  rintro e w2 ⟨rfl, hd, hst⟩
  have HD2 := Lib.hid (show DkIn w.heap.size w w2 d (fun _ => False) Go.Proofs.Ytgemjdacnomnhaa.A1 from hd)
  clear hd hst HD HMK
  have hsn := sync_in (nmS 1) HD2.out A1ok (by omega) (by decide) T2ok (show (Go.Proofs.Ytgemjdacnomnhaa.A1.sync (nmS 1)).1 = T2 from rfl)
  rw [nm1] at hsn
  have HSN := Lib.hid hsn
  clear hsn
  go_wp2_with (fail)
  refine HSN.out.mono ?_
  rintro e w3 ⟨rfl, hd, hst⟩
  have HD3 := Lib.hid hd
  clear hd hst HD2 HSN
  go_wp2_with (fail)
  refine (syncDir_in HD3.out T2dk (by omega) T3ok (show T2.syncDir.1 = T3 from rfl)).mono ?_
  rintro e w4 ⟨rfl, hd, hst⟩
  have HD4 := Lib.hid hd
  clear hd hst HD3
  go_wp2_with (fail)
  go_loopw [9, 10, 11] (fun vw vk vi wr => ∃ (j : Nat) (m : Dk) (A : Option Addr) (q c kc : Nat) (l : List (Fn × Fh)) (out : Nat → Prop), j ≤ n0 ∧ q ≤ j ∧ vw = .slice A q c ∧ vk = .int .i64 (kc : Nat) ∧ vi = .int .i64 (j : Nat) ∧ Hid (DkIn w.heap.size w wr d out m) ∧ Hid (ST m (rightL (ls.take j)) kc j) ∧ Hid (Want w.heap.size w wr out A q c l) ∧ Hid (fnsOf l = foundL (rightL (ls.take j)) 13)) (fun _ _ i _ => n0 - (intOf i).toNat)
  case atStart => exact ⟨0, T3, none, 0, 0, 0, [], fun _ => False, Nat.zero_le _, Nat.le_refl _, rfl, rfl, rfl, HD4, Lib.hid ST.start, Lib.hid (Want.nil _ _ _ _), Lib.hid rfl⟩
  case round =>
    obtain ⟨j, m, A, q, c, kc, l, out, hj, hq, rfl, rfl, rfl, HW, HST, HWN, HFL⟩ := hrel
    clear HD4
    by_cases hlt : j < n0
    · have hlt' : (j : Int) < (n0 : Int) := by omega
      have hj0 : (0 : Int) ≤ (j : Int) := by omega
      have HK := Lib.hid (show 8202 + 8200 * (j + 1) ≤ 900000 ∧ j ≤ 200 ∧ q ≤ j ∧ j ≤ 60 by omega)
      obtain ⟨ad, o, p, rfl, hblk, hoi, hin, hcs⟩ := HL.out.spot j hlt
      obtain ⟨q0, q1, q2, q3, q4, q5, q6⟩ := rc_cells (by rw [add_block]; exact hblk) hcs HW.out.low
      have HLT := Lib.hid hlt
      obtain ⟨⟨LA, ln, lc⟩, ⟨BA, bn, bc⟩⟩ := p
      have HIN := Lib.hid (show RcIn w LA ln lc BA bn bc o from hin)
      have HCS := Lib.hid (And.intro hblk hcs)
      dsimp only at q5 q6
      have hadd := segAdd_any wr 1 o (HIN.out.grow HW.out.low) HW.out HST.out.sb.ok (by have := HK.out; omega)
      have hnext := rightL_take hoi
      obtain ⟨s, hs⟩ : ∃ s : ByteArray, (⟨o.key.toArray⟩ : ByteArray) = s := ⟨_, rfl⟩
      obtain ⟨k0, hk0⟩ : ∃ k, o.kind = k := ⟨_, rfl⟩
      obtain ⟨i0, hi0⟩ : ∃ k, o.id = k := ⟨_, rfl⟩
      obtain ⟨n9, hn9⟩ : ∃ k, o.no = k := ⟨_, rfl⟩
      obtain ⟨z0, hz0⟩ : ∃ k, o.size = k := ⟨_, rfl⟩
      have HEQ := Lib.hid (And.intro hk0 (And.intro hs (And.intro hi0 (And.intro hn9 hz0))))
      rw [hs, hk0, hi0, hn9, hz0] at hadd
      rw [hs] at q1
      rw [hk0] at q0
      rw [hi0] at q2
      rw [hn9] at q3
      rw [hz0] at q4
      have HADD := Lib.hid hadd
      have HNX := Lib.hid hnext
      have HCL := Lib.hid (show ∀ w', Grows w w' → w'.cell? (ad.add (j * 7)) = some (.int .i64 k0) ∧ w'.cell? { block := (ad.add (j * 7)).block, off := (ad.add (j * 7)).off + 1 } = some (.string s) ∧ w'.cell? { block := (ad.add (j * 7)).block, off := (ad.add (j * 7)).off + 2 } = some (.int .i64 i0) ∧ w'.cell? { block := (ad.add (j * 7)).block, off := (ad.add (j * 7)).off + 3 } = some (.int .i64 n9) ∧ w'.cell? { block := (ad.add (j * 7)).block, off := (ad.add (j * 7)).off + 4 } = some (.int .i64 z0) ∧ w'.cell? { block := (ad.add (j * 7)).block, off := (ad.add (j * 7)).off + 5 } = some (.slice LA ln lc) ∧ w'.cell? { block := (ad.add (j * 7)).block, off := (ad.add (j * 7)).off + 6 } = some (.slice BA bn bc) from fun w' hg => by
        have h := rc_cells (by rw [add_block]; exact HCS.out.1) HCS.out.2 hg
        rw [hs, hk0, hi0, hn9, hz0] at h
        exact h)
      clear hblk hoi hin hcs hadd hnext hs hk0 hi0 hn9 hz0
      by_cases b1 : bn ≤ 20000
      rotate_left 1
      · have b1' : (bn : Int) > 20000 := by omega
        go_wp2_with (fail)
        go_ret
        exact ⟨rfl, HW.out.low⟩
      have b1' : ¬ ((bn : Int) > 20000) := by omega
      by_cases b2 : ln ≤ 2000
      rotate_left 1
      · have b2' : (ln : Int) > 2000 := by omega
        go_wp2_with (fail)
        go_ret
        exact ⟨rfl, HW.out.low⟩
      have b2' : ¬ ((ln : Int) > 2000) := by omega
      by_cases b3 : s.size ≤ 2000
      rotate_left 1
      · have b3' : (s.size : Int) > 2000 := by omega
        go_wp2_with (fail)
        go_ret
        exact ⟨rfl, HW.out.low⟩
      have b3' : ¬ ((s.size : Int) > 2000) := by omega
      by_cases hr : RightR o
      rotate_left 1
      · obtain ⟨he, hsb⟩ := HST.out.ill hr
        rw [if_neg hr, List.append_nil] at HNX
        rw [← HNX.out] at hsb
        rw [he] at HADD
        have HSR := Lib.hid hsb
        have HFR := Lib.hid (show fnsOf l = foundL (rightL (ls.take (j + 1))) 13 by rw [HNX.out]; exact HFL.out)
        have HQ := Lib.hid (show (rightL (ls.take (j + 1))).length = q by
          have h1 := congrArg List.length HFR.out
          unfold fnsOf at h1
          rw [List.length_map, foundL_length, HWN.out.len] at h1
          exact h1.symm)
        clear he hsb hr
        by_cases hsy : (j : Int) = sy
        · have hsyb : ((j : Int) == sy) = true := by rw [beq_iff_eq]; exact hsy
          clear hsy
          go_wp2_with (fail)
          refine HADD.out.mono ?_
          rintro e w5 ⟨rfl, hd, hst⟩
          have HDR := Lib.hid hd
          have HWR := Lib.hid (HWN.out.stays hst)
          clear hd hst q0 q1 q2 q3 q4 q5 q6
          have hsn := sync_in (nmS 1) HDR.out HSR.out.sb.ok (by have := HK.out; omega) (by decide) HSR.out.synced.1 rfl
          rw [nm1] at hsn
          have HSN := Lib.hid hsn
          clear hsn
          go_wp2_with (fail)
          refine HSN.out.mono ?_
          rintro e w11 ⟨rfl, hd, hst⟩
          have HD11 := Lib.hid hd
          have HW11 := Lib.hid (HWR.out.stays hst)
          clear hd hst
          go_wp2_with (fail)
          exact ⟨⟨j + 1, _, A, q, c, q, l, out, HLT.out, by have := HK.out; omega, rfl, rfl, rfl, HD11, Lib.hid (HQ.out ▸ HSR.out.synced.2), HW11, HFR⟩, less_oneS HLT.out⟩
        · have hsyb : ((j : Int) == sy) = false := by rw [beq_eq_false_iff_ne]; exact hsy
          clear hsy
          go_wp2_with (fail)
          refine HADD.out.mono ?_
          rintro e w5 ⟨rfl, hd, hst⟩
          have HDR := Lib.hid hd
          have HWR := Lib.hid (HWN.out.stays hst)
          clear hd hst q0 q1 q2 q3 q4 q5 q6
          go_wp2_with (fail)
          exact ⟨⟨j + 1, _, A, q, c, kc, l, out, HLT.out, by have := HK.out; omega, rfl, rfl, rfl, HDR, HSR, HWR, HFR⟩, less_oneS HLT.out⟩
      obtain ⟨he, hsb⟩ := HST.out.right HK.out.2.1 hr
      rw [if_pos hr] at HNX
      rw [← HNX.out] at hsb
      have hfl : foundL (rightL (ls.take (j + 1))) 13 = foundL (rightL (ls.take j)) 13 ++ [((segB 1 (rightL (ls.take j))).length, (frS o).length, o)] := by rw [HNX.out, foundL_snoc, segB_length]
      obtain ⟨aa, haa⟩ : ∃ aa, (segB 1 (rightL (ls.take j))).length = aa := ⟨_, rfl⟩
      obtain ⟨fs, hfse⟩ : ∃ fs, (frS o).length = fs := ⟨_, rfl⟩
      rw [haa] at he hfl
      rw [hfse] at he hfl
      rw [he] at HADD
      have HSR := Lib.hid hsb
      have HFR := Lib.hid (show fnsOf (l ++ [((aa, fs, o), (LA, ln, lc), (BA, bn, bc))]) = foundL (rightL (ls.take (j + 1))) 13 by
        unfold fnsOf
        rw [List.map_append, hfl, ← HFL.out]
        rfl)
      have HQ := Lib.hid (show (rightL (ls.take (j + 1))).length = q + 1 by
        have h1 := congrArg List.length HFR.out
        unfold fnsOf at h1
        rw [List.length_map, foundL_length, List.length_append, HWN.out.len] at h1
        exact h1.symm)
      have HFE0 := Lib.hid (show fnE ((aa, fs, o), (LA, ln, lc), (BA, bn, bc)) = [.int .i64 (aa : Nat), .int .i64 (fs : Nat), .int .i64 k0, .string s, .int .i64 i0, .int .i64 n9, .int .i64 z0, .slice LA ln lc, .slice BA bn bc] by
        unfold fnE
        dsimp only
        rw [HEQ.out.1, HEQ.out.2.1, HEQ.out.2.2.1, HEQ.out.2.2.2.1, HEQ.out.2.2.2.2])
      clear he hsb hr hfl haa hfse
      by_cases hsy : (j : Int) = sy
      · have hsyb : ((j : Int) == sy) = true := by rw [beq_iff_eq]; exact hsy
        clear hsy
        go_wp2_with (fail)
        refine HADD.out.mono ?_
        rintro e w5 ⟨rfl, hd, hst⟩
        have HD5 := Lib.hid hd
        have HW5 := Lib.hid (HWN.out.stays hst)
        obtain ⟨r0, r1, r2, r3, r4, r5, r6⟩ := HCL.out w5 HD5.out.low
        clear hd hst q0 q1 q2 q3 q4 q5 q6
        have hrow := fn_row w5 ((aa, fs, o), (LA, ln, lc), (BA, bn, bc))
        have hone := fnE_one ((aa, fs, o), (LA, ln, lc), (BA, bn, bc))
        have hfe := HFE0.out
        rw [hfe] at hrow hone
        have HFX := Lib.hid (And.intro hfe (And.intro hrow hone))
        have HOW := Lib.hid (HW5.out.grow (grows_alloc w5 (.cells #[.int .i64 (aa : Nat), .int .i64 (fs : Nat), .int .i64 k0, .string s, .int .i64 i0, .int .i64 n9, .int .i64 z0, .slice LA ln lc, .slice BA bn bc] 58)))
        have HDX := Lib.hid (HD5.out.grow (grows_alloc w5 (.cells #[.int .i64 (aa : Nat), .int .i64 (fs : Nat), .int .i64 k0, .string s, .int .i64 i0, .int .i64 n9, .int .i64 z0, .slice LA ln lc, .slice BA bn bc] 58)))
        clear hrow hone hfe
        go_wp2_with (first
          | (at_builtin
             refine list_append_at rfl (.tmp 94) (.tmp 102) 49 rfl w.heap.size 58 i1 (.agg #[.int .i64 0, .int .i64 0, .int .i64 0, .string ⟨#[]⟩, .int .i64 0, .int .i64 0, .int .i64 0, .slice none 0 0, .slice none 0 0]) 9 112 Try.underlying49 HI1.out.1 HI1.out.2.1 HI1.out.2.2.1 HI1.out.2.2.2 rfl (by decide) rfl
               HOW.out.own rfl HFX.out.2.1 (fun h => by cases h) HFX.out.2.2 (q + 1) rfl (by unfold maxLen; have := HK.out; omega) (by have := HK.out; omega) HDX.out.size ?_
             intro A9 c9 w9 hown9 hgrow9 hat9
             rw [← HFX.out.1] at hown9
             have hw9 := HOW.out.snoc (out' := fun k => out k ∨ ((w5.alloc (.cells #[.int .i64 (aa : Nat), .int .i64 (fs : Nat), .int .i64 k0, .string s, .int .i64 i0, .int .i64 n9, .int .i64 z0, .slice LA ln lc, .slice BA bn bc] 58)).heap.size ≤ k ∧ k < w9.heap.size)) (p := ((aa, fs, o), (LA, ln, lc), (BA, bn, bc))) HIN.out hown9 hat9 (fun hv => .inr ⟨Nat.le_refl _, hv⟩) (fun k hk => .inl hk)
             have HWR := Lib.hid hw9
             have HDR := Lib.hid (HDX.out.grown hgrow9 HOW.out.mine HOW.out.low)
             clear hown9 hgrow9 hat9 hw9)
          | fail)
        have hsn := sync_in (nmS 1) HDR.out HSR.out.sb.ok (by have := HK.out; omega) (by decide) HSR.out.synced.1 rfl
        rw [nm1] at hsn
        have HSN := Lib.hid hsn
        clear hsn
        refine HSN.out.mono ?_
        rintro e w11 ⟨rfl, hd, hst⟩
        have HD11 := Lib.hid hd
        have HW11 := Lib.hid (HWR.out.stays hst)
        clear hd hst
        go_wp2_with (fail)
        exact ⟨⟨j + 1, _, A9, q + 1, c9, q + 1, l ++ [((aa, fs, o), (LA, ln, lc), (BA, bn, bc))], _, HLT.out, by have := HK.out; omega, rfl, rfl, rfl, HD11, Lib.hid (HQ.out ▸ HSR.out.synced.2), HW11, HFR⟩, less_oneS HLT.out⟩
      · have hsyb : ((j : Int) == sy) = false := by rw [beq_eq_false_iff_ne]; exact hsy
        clear hsy
        go_wp2_with (fail)
        refine HADD.out.mono ?_
        rintro e w5 ⟨rfl, hd, hst⟩
        have HD5 := Lib.hid hd
        have HW5 := Lib.hid (HWN.out.stays hst)
        obtain ⟨r0, r1, r2, r3, r4, r5, r6⟩ := HCL.out w5 HD5.out.low
        clear hd hst q0 q1 q2 q3 q4 q5 q6
        have hrow := fn_row w5 ((aa, fs, o), (LA, ln, lc), (BA, bn, bc))
        have hone := fnE_one ((aa, fs, o), (LA, ln, lc), (BA, bn, bc))
        have hfe := HFE0.out
        rw [hfe] at hrow hone
        have HFX := Lib.hid (And.intro hfe (And.intro hrow hone))
        have HOW := Lib.hid (HW5.out.grow (grows_alloc w5 (.cells #[.int .i64 (aa : Nat), .int .i64 (fs : Nat), .int .i64 k0, .string s, .int .i64 i0, .int .i64 n9, .int .i64 z0, .slice LA ln lc, .slice BA bn bc] 58)))
        have HDX := Lib.hid (HD5.out.grow (grows_alloc w5 (.cells #[.int .i64 (aa : Nat), .int .i64 (fs : Nat), .int .i64 k0, .string s, .int .i64 i0, .int .i64 n9, .int .i64 z0, .slice LA ln lc, .slice BA bn bc] 58)))
        clear hrow hone hfe
        go_wp2_with (first
          | (at_builtin
             refine list_append_at rfl (.tmp 94) (.tmp 102) 49 rfl w.heap.size 58 i1 (.agg #[.int .i64 0, .int .i64 0, .int .i64 0, .string ⟨#[]⟩, .int .i64 0, .int .i64 0, .int .i64 0, .slice none 0 0, .slice none 0 0]) 9 112 Try.underlying49 HI1.out.1 HI1.out.2.1 HI1.out.2.2.1 HI1.out.2.2.2 rfl (by decide) rfl
               HOW.out.own rfl HFX.out.2.1 (fun h => by cases h) HFX.out.2.2 (q + 1) rfl (by unfold maxLen; have := HK.out; omega) (by have := HK.out; omega) HDX.out.size ?_
             intro A9 c9 w9 hown9 hgrow9 hat9
             rw [← HFX.out.1] at hown9
             have hw9 := HOW.out.snoc (out' := fun k => out k ∨ ((w5.alloc (.cells #[.int .i64 (aa : Nat), .int .i64 (fs : Nat), .int .i64 k0, .string s, .int .i64 i0, .int .i64 n9, .int .i64 z0, .slice LA ln lc, .slice BA bn bc] 58)).heap.size ≤ k ∧ k < w9.heap.size)) (p := ((aa, fs, o), (LA, ln, lc), (BA, bn, bc))) HIN.out hown9 hat9 (fun hv => .inr ⟨Nat.le_refl _, hv⟩) (fun k hk => .inl hk)
             have HWR := Lib.hid hw9
             have HDR := Lib.hid (HDX.out.grown hgrow9 HOW.out.mine HOW.out.low)
             clear hown9 hgrow9 hat9 hw9)
          | fail)
        exact ⟨⟨j + 1, _, A9, q + 1, c9, kc, l ++ [((aa, fs, o), (LA, ln, lc), (BA, bn, bc))], _, HLT.out, by have := HK.out; omega, rfl, rfl, rfl, HDR, HSR, HWR, HFR⟩, less_oneS HLT.out⟩
    · obtain rfl : j = n0 := by omega
      have hlt' : ¬ ((j : Int) < (j : Int)) := by omega
      rw [List.take_of_length_le (by rw [HL.out.len]; exact Nat.le_refl _)] at HST HFL
      have HK := Lib.hid (show 8202 + 8200 * j ≤ 900000 ∧ j ≤ 60 ∧ q ≤ j by omega)
      have hrr : ∀ r ∈ rightL ls, RightR r := rightL_right
      obtain ⟨rs, hrs⟩ : ∃ rs, rightL ls = rs := ⟨_, rfl⟩
      rw [hrs] at HST HFL hrr
      have HRR := Lib.hid hrr
      have HQ := Lib.hid (show rs.length = q by
        have h1 := congrArg List.length HFL.out
        unfold fnsOf at h1
        rw [List.length_map, foundL_length, HWN.out.len] at h1
        exact h1.symm)
      obtain ⟨K, hK1, hK2, hKa⟩ := HST.out.boot zs
      have HKA := Lib.hid hKa
      rw [HQ.out] at hK2
      have HB := Lib.hid (boot_in 0 HW.out HST.out.sb.ok (by have := HK.out; omega) (HZ.out.1.grow HW.out.low) HZ.out.2.1 (fun ad e hne => .inl (HZ.out.2.2 ad e hne)))
      have HBO := Lib.hid (HST.out.sb.ok.boot 0 zs)
      clear hrs hrr hKa
      go_wp2_with (fail)
      refine HB.out.mono ?_
      rintro e w5 ⟨rfl, hd, hst⟩
      have HD5 := Lib.hid hd
      have HW5 := Lib.hid (HWN.out.stays hst)
      have hall := segAll_any w5 1 (by omega) hd HBO.out (by have := HK.out; omega)
      rw [HKA.out] at hall
      have HALL := Lib.hid hall
      clear hd hst hall HB
      go_wp2_with (fail)
      refine HALL.out.mono ?_
      rintro e w8 ⟨GA, gc, gl, rfl, hf, hfl, hg8⟩
      have HD8 := Lib.hid (HD5.out.grow hg8)
      have hq : gl.length = K := by
        have h1 := congrArg List.length hfl
        rw [List.length_map, foundL_length, List.length_take, HQ.out] at h1
        omega
      have HFN := Lib.hid (((HW5.out.fnds HD5.out.low).grow hg8).first hK2)
      have hsame := fun X Y cc (hX : Fnds w8 X Y (l.take K)) => sameF_any w8 gl (l.take K) GA gl.length gc X Y cc hf.fnds hX (by have := HK.out; omega) (fun p hp => by
        have h1 := (hf.recs p hp).len
        have h2 : p.1 ∈ foundL (rs.take K) 13 := by rw [← hfl]; exact List.mem_map.2 ⟨p, hp, rfl⟩
        have h3 := loc_small (found_right _ _ (fun r hr => HRR.out r (List.mem_of_mem_take hr)) _ h2)
        omega)
      rw [decide_eq_true (show fnsOf gl = fnsOf (l.take K) from by
        have h1 := HFL.out
        unfold fnsOf at h1 ⊢
        rw [List.map_take, h1, hfl]
        exact foundL_take rs K 13)] at hsame
      have HSAME := Lib.hid hsame
      rw [hq] at HSAME
      rw [hq]
      have hkc : (kc : Int) ≤ (K : Int) := by omega
      have hKq : (K : Int) ≤ (q : Int) := by omega
      have hform := HWN.out.own.2
      clear hf hfl hg8 hsame hq
      rcases hform with ⟨hv, h0⟩ | ⟨g, cap, cur, hv, _, _, hcap, _⟩
      · injection hv with hv1 _ hv2
        subst hv1 hv2 h0
        obtain rfl : K = 0 := by omega
        have hk0 : kc = 0 := by omega
        subst hk0
        go_wp2_with (fail)
        refine (HSAME.out _ _ _ HFN.out).mono ?_
        rintro e w9 ⟨rfl, hg9⟩
        have HD9 := Lib.hid (HD8.out.grow hg9)
        clear hg9 HSAME
        go_wp2_with (fail)
        go_ret
        exact ⟨rfl, HD9.out.low⟩
      · injection hv with hv1 _ hv2
        subst hv1 hv2
        have hKc : (K : Int) ≤ (c : Int) := by omega
        have hK0 : (0 : Int) ≤ (K : Int) := by omega
        have hkn : kc ≤ K := hK1
        have hqn : K ≤ q := hK2
        have hcn : K ≤ c := by omega
        go_wp2_with (fail)
        refine (HSAME.out _ _ _ HFN.out).mono ?_
        rintro e w9 ⟨rfl, hg9⟩
        have HD9 := Lib.hid (HD8.out.grow hg9)
        clear hg9 HSAME
        go_wp2_with (fail)
        go_ret
        exact ⟨rfl, HD9.out.low⟩

set_option maxRecDepth 100000 in
theorem segTorn_lifted (os : Os) (started : os.Started) (H : Type) (enc : TypeId × Value → H) :
    ReturnsInHanded {} Try.checked os 7 .any (Rows.segTornSpec.pre6 enc Try.prog Try.f7 Rows.segTornRow.domain false) (Rows.segTornSpec.post enc Try.prog Try.f7 false true false false) := by
  refine lift_law (C := Try.checked) H enc own started (by kernel_rfl) Try.func7
    (ChangeSpec.witness6 (enc := enc) (C := Try.checked) false ⟨#[], #[.slice none 0 0, .int .u8 0, .slice none 0 0], []⟩ 16 (by kernel_rfl) (by kernel_rfl) (by kernel_rfl) (by kernel_rfl))
    laidOut (of_readable (by kernel_rfl)) rfl Try.underlying4 rfl (fun ds hd => ?_) (fun W base args ds p hval hA hsz => ?_)
  · match ds, hd with
    | [d1, d2, d3], _ => rfl
  · rw [Try.params7] at hA hval hsz
    obtain ⟨v0, vs0, d0, ds0, p0, q0, hargs, rfl, rfl, h0, r0⟩ := trodAll_cons hA
    obtain ⟨v1, vs1, d1, ds1, p1, q1, rfl, rfl, rfl, h1, r1⟩ := trodAll_cons r0
    obtain ⟨v2, vs2, d2, ds2, p2, q2, rfl, rfl, rfl, h2, r2⟩ := trodAll_cons r1
    obtain ⟨rfl, rfl, rfl⟩ := trodAll_nil r2
    obtain rfl : args = #[v0, v1, v2] := by cases args; simp_all
    obtain ⟨A0, n0, c0, xs0, rfl, hx0⟩ := open_recs (hval 0 47 v0 rfl rfl) h0
    obtain ⟨a1, rfl, _, _, w1⟩ := open_int Try.underlying5 (hval 1 5 v1 rfl rfl) h1
    have b1 := bounds_u8 w1
    obtain ⟨A2, n2, c2, xs2, rfl, hx2, hb2⟩ := open_i64b (hval 2 31 v2 rfl rfl) h2
    exact segTorn_law W A0 n0 c0 xs0 hx0 a1 (by omega) A2 n2 c2 xs2 hx2 hb2

theorem segTorn_over : Rows.segTornRow.holds Try.pinned (OpenSpec.ofChange Rows.segTornSpec) :=
  OpenClaim.holds_of_wide 7 Try.f7 rfl rfl rfl rfl rfl rfl rfl ⟨rfl, rfl, rfl, rfl, rfl⟩ rfl rfl rfl rfl rfl (by kernel_rfl) Try.func7 (by kernel_rfl)
    (of_decide_eq_true (by kernel_rfl)) (by unfold Func.isWrapper; first | (rw [if_pos (by decide +kernel)]; kernel_rfl) | (rw [if_neg (by decide +kernel)]; exact ⟨rfl, rfl⟩))
    (fun os started H enc _ => segTorn_lifted os started H enc)
theorem segTorn_holds : Rows.SegTornSaid := segTorn_over
end Go.Proofs.Ytgemjdacnomnhaa
