/-
  Statement ManAgain: one manifest saved behind the other: the last one is loaded, whichever they are; nothing else is left than its file. Any list of manifests, no condition.
-/
import Derived.Test.YtdkpbphgaenlnaaMU
import Derived.Test.YtdkpbphgaenlnaaCame
import Derived.ProofKit
import Derived.ChangeOld
namespace Go.Proofs.Ytdkpbphgaenlnaa
open Go.ChangeShapes Go.WideShapes Go.ChangeAt Go.RowKit
set_option linter.unusedSimpArgs false
set_option linter.unusedVariables false
attribute [local irreducible] wpF
theorem less_oneM {k n : Nat} (h : k < n) : n - (intOf (Value.int IntKind.i64 ((k : Int) + 1))).toNat < n - (intOf (Value.int IntKind.i64 (k : Int))).toNat := by
  simp only [intOf]
  omega
set_option maxHeartbeats 16000000 in
set_option maxRecDepth 100000 in
theorem manAgain_law (w : World) (A0 : Option Addr) (n0 c0 : Nat) (ls : List Mn) (hl : Mans w A0 n0 c0 ls) :
    Calls Try.prog 7 #[.slice A0 n0 c0] w fun e w' => e = .returned (.bool true) ∧ Below w.heap.size w w' := by
  have HL := Lib.hid hl
  clear hl
  go_enter Try.func7, Try.ntmps7
  go_wp2_with (fail)
  refine (head10_any w).mono ?_
  rintro e w1 ⟨rfl, hb1⟩
  have HB1 := Lib.hid hb1
  clear hb1
  go_wp2_with (fail)
  refine (new_any w1 4194304).mono ?_
  rintro e w3 ⟨d, rfl, hn⟩
  have HD := Lib.hid (show DkIn w.heap.size w w3 d (fun _ => False) (Dk.new 4194304) from DkIn.new hn HB1.out.size HB1.out (fun k h => h.elim))
  clear hn
  by_cases h30 : n0 ≤ 30
  rotate_left 1
  · have h30' : (n0 : Int) > 30 := by omega
    go_wp2_with (fail)
    go_ret
    exact ⟨rfl, HD.out.low⟩
  have h30' : ¬ ((n0 : Int) > 30) := by omega
  have g4 := grows_alloc w3 (.cells #[.slice none 0 0, .int .i64 0] 24)
  have m4 := Whole.made w3 24 #[.slice none 0 0, .int .i64 0]
  have HD4 := Lib.hid ((HD.out.more g4).less (out' := fun k => k = w3.heap.size) fun k hk => .inr ⟨by omega, by rw [World.size_alloc]; omega⟩)
  have HM4 := Lib.hid m4
  have HBS := Lib.hid HD.out.size
  clear g4 m4
  go_wp2_with (fail)
  obtain ⟨g5, hg5⟩ : ∃ g, w3.heap.size = g := ⟨_, rfl⟩
  rw [hg5] at HM4 HD4 HBS ⊢
  go_loopw [6, 7] (fun tv iv wr => ∃ (j : Nat) (m : Dk) (o : Option (Nat × Mn)) (LA : Option Addr) (ln lc : Nat), j ≤ n0 ∧ iv = .int .i64 (j : Nat) ∧ tv = .bool o.isSome ∧ Hid (DkIn w.heap.size w wr d (fun k => k = g5) m) ∧ Hid (DkOk (j * 4100) m ∧ SS true m o) ∧
    Hid (Whole wr g5 24 #[.slice LA ln lc, .int .i64 (lastO o).1.next]) ∧ Hid (MnIn w LA ln lc (lastO o).1 ∧ ln ≤ 2000)) (fun _ i _ => n0 - (intOf i).toNat)
  case atStart => exact ⟨0, Dk.new 4194304, none, none, 0, 0, Nat.zero_le _, rfl, rfl, HD4, Lib.hid ⟨(DkOk.new 4194304).mono (by omega), SS.new _ (by omega)⟩, HM4, Lib.hid ⟨MnIn.of ⟨Row.nil _ _ _, Nat.le_refl _, fun _ => rfl⟩ (by intro y hy; cases hy) (by show In64 0; unfold In64; omega), by omega⟩⟩
  case round =>
    obtain ⟨j, m, o, LA, ln, lc, hj, rfl, rfl, HW, HSS, HMM, HLA⟩ := hrel
    clear HD HD4 HM4
    obtain ⟨io, hio⟩ : ∃ b, o.isSome = b := ⟨_, rfl⟩
    rw [hio]
    have HIO := Lib.hid hio
    clear hio
    by_cases hlt : j < n0
    · have hlt' : (j : Int) < (n0 : Int) := by omega
      have hj0 : (0 : Int) ≤ (j : Int) := by omega
      have hwj : IntKind.i64.wrap ((j : Int) + 1) = (j : Int) + 1 := IntWalk.i64_in _ (by omega)
      have HK := Lib.hid (show (j + 1) * 4100 ≤ 200000 ∧ j ≤ 30 by omega)
      obtain ⟨ad, x, ⟨XA, xn, xc⟩, rfl, hblk, hxi, hin, hcs⟩ := HL.out.spot j hlt
      obtain ⟨p0, p1⟩ := mn_cells (by rw [add_block]; exact hblk) hcs HW.out.low
      dsimp only at p0 hin
      have HCX := Lib.hid (show ∀ w', Below w.heap.size w w' → w'.cell? (ad.add (j * 2)) = some (.slice XA xn xc) ∧ w'.cell? { block := (ad.add (j * 2)).block, off := (ad.add (j * 2)).off + 1 } = some (.int .i64 x.next) from fun w' hC => mn_cells (by rw [add_block]; exact hblk) hcs hC)
      have HIN := Lib.hid hin
      have HLT := Lib.hid hlt
      obtain ⟨r, hr⟩ : ∃ r, rightM x = r := ⟨_, rfl⟩
      have HR := Lib.hid hr
      obtain ⟨xx, hxx⟩ : ∃ z, x.next = z := ⟨_, rfl⟩
      have HXX := Lib.hid hxx
      rw [hxx] at p1 HCX
      clear hblk hxi hin hcs hr hxx hlt
      by_cases b2 : xn ≤ 2000
      rotate_left 1
      · have b2' : (xn : Int) > 2000 := by omega
        go_wp2_with (fail)
        go_ret
        exact ⟨rfl, HW.out.low⟩
      have b2' : ¬ ((xn : Int) > 2000) := by omega
      have hsa := msave_any wr XA xn xc x (HIN.out.grow HW.out.low) HW.out HSS.out.1 (by have := HK.out; omega)
      rw [HXX.out] at hsa
      cases r with
      | false =>
        rw [SS.ill HR.out] at hsa
        have HSA := Lib.hid hsa
        clear hsa
        go_wp2_with (fail)
        refine HSA.out.mono ?_
        rintro e w5 ⟨rfl, hd5, hst5⟩
        have HD5 := Lib.hid hd5
        have HM5 := Lib.hid (HMM.out.same (hst5.same g5 HMM.out.lt fun h => h.2 rfl))
        obtain ⟨p2, p3⟩ := HCX.out w5 HD5.out.low
        have hrt := mright_any w5 XA xn xc x (HIN.out.grow HD5.out.low)
        rw [HXX.out, HR.out] at hrt
        have HRT := Lib.hid hrt
        clear hd5 hst5 hrt p0 p1 HSA
        go_wp2_with (fail)
        refine HRT.out.mono ?_
        rintro e w7 ⟨rfl, hg7⟩
        have HD7 := Lib.hid (HD5.out.grow hg7)
        have HM7 := Lib.hid (show Whole w7 g5 24 #[.slice LA ln lc, .int .i64 (lastO o).1.next] from hg7.whole HM5.out)
        have HS7 := Lib.hid (And.intro (HSS.out.1.mono (show j * 4100 ≤ (j + 1) * 4100 by omega)) HSS.out.2)
        have HLL := Lib.hid HLA.out.2
        clear hg7 p2 p3
        have hio7 := HIO.out
        go_wp2_with (fail)
        have hlo := mload_any w7 HD7.out HS7.out.1 (by have := HK.out; omega)
        rw [HS7.out.2.load, lastO_eq] at hlo
        refine hlo.mono ?_
        clear hlo
        rintro e w8 ⟨A8, k8, c8, rfl, ho, hg⟩
        dsimp only at ho
        have ga := grows_alloc w8 (.cells #[.slice A8 k8 c8, .int .i64 (lastO o).1.next] 24)
        have hgg := Grows.trans hg ga
        have HD9 := Lib.hid (HD7.out.grow hgg)
        have HX9 := Lib.hid (Ints.owned (owned_from (owned_grow ho ga) (Nat.zero_le _)))
        have hm9 := hgg.whole HM7.out
        have HM9 := Lib.hid hm9
        obtain ⟨nx, hnx⟩ : ∃ nx, (lastO o).1.next = nx := ⟨_, rfl⟩
        have HNX := Lib.hid hnx
        rw [hnx] at hm9 HM9 HD9 HX9
        have q0 := hm9.cell 0
        have q1 := hm9.cell 1
        simp only [List.getElem?_toArray, List.getElem?_cons_zero, List.getElem?_cons_succ] at q0 q1
        have hsm := msame_any _ A8 k8 c8 (lastO o).1 LA ln lc (lastO o).1 HX9.out (HLA.out.1.segs.grow HD9.out.low) (by have h1 := HX9.out.len; have h2 := HLA.out.1.segs.len; have := HLL.out; omega)
        rw [decide_eq_true rfl, hnx] at hsm
        have HSM := Lib.hid hsm
        dsimp only
        rw [hnx, hio7]
        clear hio7
        clear ho hg ga hgg hm9 hsm hnx
        go_wp2_with (fail)
        refine HSM.out.mono ?_
        rintro e w10 ⟨rfl, hg⟩
        have HD10 := Lib.hid (HD9.out.grow hg)
        have hm10 := hg.whole HM9.out
        rw [← HNX.out] at hm10
        have HM10 := Lib.hid hm10
        clear hg hm10 q0 q1
        go_wp2_with (fail)
        exact ⟨⟨j + 1, m, o, LA, ln, lc, HLT.out, rfl, by rw [HIO.out], HD10, HS7, HM10, HLA⟩, less_oneM HLT.out⟩
      | true =>
        rcases HSS.out.2.save HR.out with ⟨hs0, hss1⟩ | ⟨hwl, _⟩
        rotate_left 1
        · cases hwl
        have hok1 := HSS.out.1.save x
        obtain ⟨⟨m1, e1⟩, hsv⟩ : ∃ q, saveP m x = q := ⟨_, rfl⟩
        rw [hsv] at hs0 hss1 hok1 hsa
        dsimp only at hs0 hss1 hok1
        subst hs0
        obtain ⟨mm, hmm⟩ : ∃ z, m.made = z := ⟨_, rfl⟩
        rw [hmm] at hss1
        have HSA := Lib.hid hsa
        have HS7 := Lib.hid (And.intro (hok1.mono (show j * 4100 + 4100 ≤ (j + 1) * 4100 by omega)) hss1)
        clear hsa hsv hss1 hok1 hmm
        go_wp2_with (fail)
        refine HSA.out.mono ?_
        rintro e w5 ⟨rfl, hd5, hst5⟩
        have HD5 := Lib.hid hd5
        have HM5 := Lib.hid (HMM.out.same (hst5.same g5 HMM.out.lt fun h => h.2 rfl))
        obtain ⟨p2, p3⟩ := HCX.out w5 HD5.out.low
        have hrt := mright_any w5 XA xn xc x (HIN.out.grow HD5.out.low)
        rw [HXX.out, HR.out] at hrt
        have HRT := Lib.hid hrt
        clear hd5 hst5 hrt p0 p1 HSA
        go_wp2_with (fail)
        refine HRT.out.mono ?_
        rintro e w6 ⟨rfl, hg6⟩
        have HD6 := Lib.hid (HD5.out.grow hg6)
        have hm6 := hg6.whole HM5.out
        have HM6 := Lib.hid hm6
        obtain ⟨p4, p5⟩ := HCX.out w6 HD6.out.low
        have k0 := hm6.free 0
        have k1 := hm6.free 1
        have k2 := hm6.cell 0
        have k3 := hm6.cell 1
        simp only [List.getElem?_toArray, List.getElem?_cons_zero, List.getElem?_cons_succ] at k0 k1 k2 k3
        have hsp : Spares (fun k => k = g5) w6 ((w6.setCell ⟨g5, 0, none⟩ (.slice XA xn xc)).setCell ⟨g5, 1, none⟩ (.int .i64 xx)) := ((Spares.refl (fun k => k = g5) w6).setCell (p := ⟨g5, 0, none⟩) rfl _).setCell (p := ⟨g5, 1, none⟩) rfl _
        have HD7 := Lib.hid (HD6.out.other hsp (fun k hk _ => hk) fun k hk => by rw [hk]; exact HBS.out)
        have HM7 := Lib.hid (show Whole ((w6.setCell ⟨g5, 0, none⟩ (.slice XA xn xc)).setCell ⟨g5, 1, none⟩ (.int .i64 xx)) g5 24 #[.slice XA xn xc, .int .i64 (lastO (some (mm, x))).1.next] from by
          rw [show (lastO (some (mm, x))).1.next = xx from HXX.out]
          exact (HM6.out.put 0 _).put 1 _)
        have HLL := Lib.hid b2
        clear hg6 hm6 p2 p3 hsp
        obtain ⟨w7, hw7⟩ : ∃ z, ((w6.setCell ⟨g5, 0, none⟩ (.slice XA xn xc)).setCell ⟨g5, 1, none⟩ (.int .i64 xx)) = z := ⟨_, rfl⟩
        rw [hw7] at HD7 HM7
        go_wp2_with (fail)
        clear hw7 k0 k1 k2 k3 p4 p5
        have hlo := mload_any w7 HD7.out HS7.out.1 (by have := HK.out; omega)
        rw [HS7.out.2.load, lastO_eq] at hlo
        refine hlo.mono ?_
        clear hlo
        rintro e w8 ⟨A8, k8, c8, rfl, ho, hg⟩
        dsimp only at ho
        have ga := grows_alloc w8 (.cells #[.slice A8 k8 c8, .int .i64 (lastO (some (mm, x))).1.next] 24)
        have hgg := Grows.trans hg ga
        have HD9 := Lib.hid (HD7.out.grow hgg)
        have HX9 := Lib.hid (Ints.owned (owned_from (owned_grow ho ga) (Nat.zero_le _)))
        have hm9 := hgg.whole HM7.out
        have HM9 := Lib.hid hm9
        obtain ⟨nx, hnx⟩ : ∃ nx, (lastO (some (mm, x))).1.next = nx := ⟨_, rfl⟩
        have HNX := Lib.hid hnx
        rw [hnx] at hm9 HM9 HD9 HX9
        have q0 := hm9.cell 0
        have q1 := hm9.cell 1
        simp only [List.getElem?_toArray, List.getElem?_cons_zero, List.getElem?_cons_succ] at q0 q1
        have hsm := msame_any _ A8 k8 c8 (lastO (some (mm, x))).1 XA xn xc (lastO (some (mm, x))).1 HX9.out ((show Ints w XA xn xc (lastO (some (mm, x))).1.segs from HIN.out.segs).grow HD9.out.low) (by have h1 := HX9.out.len; have h2 := (show Ints w XA xn xc (lastO (some (mm, x))).1.segs from HIN.out.segs).len; have := HLL.out; omega)
        rw [decide_eq_true rfl, hnx] at hsm
        have HSM := Lib.hid hsm
        dsimp only
        rw [hnx]
        clear ho hg ga hgg hm9 hsm hnx
        go_wp2_with (fail)
        refine HSM.out.mono ?_
        rintro e w10 ⟨rfl, hg⟩
        have HD10 := Lib.hid (HD9.out.grow hg)
        have hm10 := hg.whole HM9.out
        rw [← HNX.out] at hm10
        have HM10 := Lib.hid hm10
        clear hg hm10 q0 q1
        go_wp2_with (fail)
        exact ⟨⟨j + 1, m1, some (mm, x), XA, xn, xc, HLT.out, rfl, rfl, HD10, HS7, HM10, Lib.hid ⟨HIN.out, HLL.out⟩⟩, less_oneM HLT.out⟩
    · obtain rfl : j = n0 := by omega
      have hlt' : ¬ ((j : Int) < (j : Int)) := by omega
      obtain ⟨wa, rfl⟩ : ∃ x, x = wr := ⟨_, rfl⟩
      have HK := Lib.hid (show j * 4100 ≤ 200000 by omega)
      obtain ⟨nx, hnx⟩ : ∃ z, (lastO o).1.next = z := ⟨_, rfl⟩
      rw [hnx] at HMM
      have HC := Lib.hid (show ∀ w', Grows wa w' → w'.cell? { block := g5, off := 0 } = some (.slice LA ln lc) ∧ w'.cell? { block := g5, off := 1 } = some (.int .i64 nx) from fun w' hC => ⟨(hC.whole HMM.out).cell 0, (hC.whole HMM.out).cell 1⟩)
      obtain ⟨pl, hpl⟩ : ∃ p, (putM (lastO o).1).length = p := ⟨_, rfl⟩
      have hpb : pl ≤ 4015 := by rw [← hpl]; exact putM_small _
      have HPU := Lib.hid (fun w' (hC : Grows wa w') => by
        have h := mputs_any w' LA ln lc (lastO o).1 ((HLA.out.1.grow HW.out.low).grow hC)
        rw [hnx] at h
        exact h.mono (R' := fun e w'' => ∃ A c, e = .returned (.slice A pl c) ∧ Grows w' w'') fun e w'' ⟨A, k, c, he, ho, hg⟩ => ⟨A, c, by rw [he, ← hpl, (Sl.owned ho).len], hg⟩)
      have hwp : IntKind.i64.wrap ((pl : Int) * 1) = (pl : Int) := by rw [IntWalk.i64_in _ (by omega)]; omega
      have hwp2 : IntKind.i64.wrap (pl : Int) = (pl : Int) := IntWalk.i64_in _ (by omega)
      have hw0 : IntKind.i64.wrap 0 = 0 := IntWalk.i64_in _ (by omega)
      have hus := HSS.out.2.sg.used
      have hnm := HSS.out.2.sg.names
      cases io with
      | true =>
        obtain ⟨⟨f, x⟩, rfl⟩ : ∃ p, o = some p := by have := HIO.out; cases o with | none => cases this | some p => exact ⟨p, rfl⟩
        have HUS := Lib.hid (fun w' (hC : Grows wa w') => by
          have h := used_in (HW.out.grow hC)
          rw [hus, show lenO (some (f, x)) = (pl : Int) by rw [← hpl]; rfl] at h
          exact h.mono (R' := fun e w'' => e = .returned (.int .i64 (pl : Nat)) ∧ Grows w' w'') fun e w'' ⟨he, hw⟩ => ⟨he, hw ▸ Grows.refl _⟩)
        have HLI := Lib.hid (fun w' (hC : Grows wa w') => by
          have h := list_in (HW.out.grow hC) HSS.out.1 (by have := HK.out; omega)
          rw [hnm] at h
          exact h.mono (R' := fun e w'' => ∃ A c, e = .returned (.slice A 1 c) ∧ Grows w' w'') fun e w'' ⟨A, c, he, _, hg⟩ => ⟨A, c, he, hg⟩)
        clear hus hnm hpl hnx
        go_wp2_with (fail)
        refine wp_region_facts (E := Grows) [valFact (.bool true), valFact (.bool true), valFact (.pointer (some ⟨d, 0, none⟩)), lenFact 1, valFact (.int .i64 1), valFact (.bool true), valFact (.bool true), valFact (.bool true), valFact (.bool true), valFact (.bool true), valFact (.pointer (some ⟨d, 0, none⟩)), valFact (.int .i64 (pl : Nat)), valFact (.agg #[.slice LA ln lc, .int .i64 nx]), lenFact pl, valFact (.int .i64 (pl : Nat)), valFact (.bool true), valFact (.int .i64 1), valFact (.int .i64 (pl : Nat)), valFact (.bool true), valFact (.bool true), valFact (.bool true)] (by kernel_rfl) (by kernel_rfl) (fun _ _ _ => Grows.trans) (grows_drew _) ?_
        refine f_val (.bool true) (by rfl) ?_ ?_
        · intro w' hC; clear hC; first | (go_simp; done)
        simp only [Act.put, List.setIfInBounds_toArray, List.set_cons_zero, List.set_cons_succ]
        refine f_val (.bool true) (by rfl) ?_ ?_
        · intro w' hC; clear hC; first | (go_simp; done)
        simp only [Act.put, List.setIfInBounds_toArray, List.set_cons_zero, List.set_cons_succ]
        refine f_val (.pointer (some ⟨d, 0, none⟩)) (by rfl) ?_ ?_
        · intro w' hC; clear hC; first | (go_simp; done)
        simp only [Act.put, List.setIfInBounds_toArray, List.set_cons_zero, List.set_cons_succ]
        refine f_len 1 26 #[.pointer (some ⟨d, 0, none⟩)] (by rfl) (by intro w' hC; clear hC; go_simp) ?_ ?_
        · intro w' hC; exact HLI.out w' hC
        intro LA1 lc1
        simp only [Act.put, List.setIfInBounds_toArray, List.set_cons_zero, List.set_cons_succ]
        refine f_val (.int .i64 1) (by rfl) ?_ ?_
        · intro w' hC; clear hC; first | (go_simp; done)
        simp only [Act.put, List.setIfInBounds_toArray, List.set_cons_zero, List.set_cons_succ]
        refine f_val (.bool true) (by rfl) ?_ ?_
        · intro w' hC; clear hC; first | (go_simp; done)
        simp only [Act.put, List.setIfInBounds_toArray, List.set_cons_zero, List.set_cons_succ]
        refine f_val (.bool true) (by rfl) ?_ ?_
        · intro w' hC; clear hC; first | (go_simp; done)
        simp only [Act.put, List.setIfInBounds_toArray, List.set_cons_zero, List.set_cons_succ]
        refine f_val (.bool true) (by rfl) ?_ ?_
        · intro w' hC; clear hC; first | (go_simp; done)
        simp only [Act.put, List.setIfInBounds_toArray, List.set_cons_zero, List.set_cons_succ]
        refine f_val (.bool true) (by rfl) ?_ ?_
        · intro w' hC; clear hC; first | (go_simp; done)
        simp only [Act.put, List.setIfInBounds_toArray, List.set_cons_zero, List.set_cons_succ]
        refine f_val (.bool true) (by rfl) ?_ ?_
        · intro w' hC; clear hC; first | (go_simp; done)
        simp only [Act.put, List.setIfInBounds_toArray, List.set_cons_zero, List.set_cons_succ]
        refine f_val (.pointer (some ⟨d, 0, none⟩)) (by rfl) ?_ ?_
        · intro w' hC; clear hC; first | (go_simp; done)
        simp only [Act.put, List.setIfInBounds_toArray, List.set_cons_zero, List.set_cons_succ]
        refine f_call 27 #[.pointer (some ⟨d, 0, none⟩)] (.int .i64 (pl : Nat)) (by rfl) (by intro w' hC; clear hC; go_simp) ?_ ?_
        · intro w' hC hks; exact HUS.out w' hC
        simp only [Act.put, List.setIfInBounds_toArray, List.set_cons_zero, List.set_cons_succ]
        refine f_val (.agg #[.slice LA ln lc, .int .i64 nx]) (by rfl) ?_ ?_
        · intro w' hC; obtain ⟨z0, z1⟩ := HC.out w' hC; clear hC; first | (go_simp; done)
        simp only [Act.put, List.setIfInBounds_toArray, List.set_cons_zero, List.set_cons_succ]
        refine f_len pl 14 #[.agg #[.slice LA ln lc, .int .i64 nx]] (by rfl) (by intro w' hC; clear hC; go_simp) ?_ ?_
        · intro w' hC; exact HPU.out w' hC
        intro LApl lcpl
        simp only [Act.put, List.setIfInBounds_toArray, List.set_cons_zero, List.set_cons_succ]
        refine f_val (.int .i64 (pl : Nat)) (by rfl) ?_ ?_
        · intro w' hC; clear hC; first | (go_simp; done)
        simp only [Act.put, List.setIfInBounds_toArray, List.set_cons_zero, List.set_cons_succ]
        refine f_val (.bool true) (by rfl) ?_ ?_
        · intro w' hC; clear hC; first | (go_simp; done)
        simp only [Act.put, List.setIfInBounds_toArray, List.set_cons_zero, List.set_cons_succ]
        refine f_call 28 #[.bool true] (.int .i64 1) (by rfl) (by intro w' hC; clear hC; go_simp) ?_ ?_
        · intro w' hC hks; exact many_true w'
        simp only [Act.put, List.setIfInBounds_toArray, List.set_cons_zero, List.set_cons_succ]
        refine f_val (.int .i64 (pl : Nat)) (by rfl) ?_ ?_
        · intro w' hC; clear hC; first | (go_simp; done) | (go_simp; exact hwp2) | (go_simp; exact hw0)
        simp only [Act.put, List.setIfInBounds_toArray, List.set_cons_zero, List.set_cons_succ]
        refine f_val (.bool true) (by rfl) ?_ ?_
        · intro w' hC; clear hC; first | (go_simp; done)
        simp only [Act.put, List.setIfInBounds_toArray, List.set_cons_zero, List.set_cons_succ]
        refine f_val (.bool true) (by rfl) ?_ ?_
        · intro w' hC; clear hC; first | (go_simp; done)
        simp only [Act.put, List.setIfInBounds_toArray, List.set_cons_zero, List.set_cons_succ]
        refine f_val (.bool true) (by rfl) ?_ ?_
        · intro w' hC; clear hC; first | (go_simp; done)
        simp only [Act.put, List.setIfInBounds_toArray, List.set_cons_zero, List.set_cons_succ]
        refine wpF_end ?_
        intro w9 hC hks
        have HCw9 := Lib.hid hC
        clear hC hks
        go_wp2_with (fail)
        go_ret
        exact ⟨rfl, HW.out.low.trans (Below.mono HCw9.out HW.out.size)⟩
      | false =>
        obtain rfl : o = none := by have := HIO.out; cases o with | none => rfl | some p => cases this
        have HUS := Lib.hid (fun w' (hC : Grows wa w') => by
          have h := used_in (HW.out.grow hC)
          rw [hus, show lenO none = 0 from rfl] at h
          exact h.mono (R' := fun e w'' => e = .returned (.int .i64 0) ∧ Grows w' w'') fun e w'' ⟨he, hw⟩ => ⟨he, hw ▸ Grows.refl _⟩)
        have HLI := Lib.hid (fun w' (hC : Grows wa w') => by
          have h := list_in (HW.out.grow hC) HSS.out.1 (by have := HK.out; omega)
          rw [hnm] at h
          exact h.mono (R' := fun e w'' => ∃ A c, e = .returned (.slice A 0 c) ∧ Grows w' w'') fun e w'' ⟨A, c, he, _, hg⟩ => ⟨A, c, he, hg⟩)
        clear hus hnm hpl hnx
        go_wp2_with (fail)
        refine wp_region_facts (E := Grows) [valFact (.bool true), valFact (.bool true), valFact (.pointer (some ⟨d, 0, none⟩)), lenFact 0, valFact (.int .i64 0), valFact (.bool false), valFact (.bool false), valFact (.bool true), valFact (.bool true), valFact (.bool true), valFact (.pointer (some ⟨d, 0, none⟩)), valFact (.int .i64 0), valFact (.agg #[.slice LA ln lc, .int .i64 nx]), lenFact pl, valFact (.int .i64 (pl : Nat)), valFact (.bool false), valFact (.int .i64 0), valFact (.int .i64 0), valFact (.bool true), valFact (.bool true), valFact (.bool true)] (by kernel_rfl) (by kernel_rfl) (fun _ _ _ => Grows.trans) (grows_drew _) ?_
        refine f_val (.bool true) (by rfl) ?_ ?_
        · intro w' hC; clear hC; first | (go_simp; done)
        simp only [Act.put, List.setIfInBounds_toArray, List.set_cons_zero, List.set_cons_succ]
        refine f_val (.bool true) (by rfl) ?_ ?_
        · intro w' hC; clear hC; first | (go_simp; done)
        simp only [Act.put, List.setIfInBounds_toArray, List.set_cons_zero, List.set_cons_succ]
        refine f_val (.pointer (some ⟨d, 0, none⟩)) (by rfl) ?_ ?_
        · intro w' hC; clear hC; first | (go_simp; done)
        simp only [Act.put, List.setIfInBounds_toArray, List.set_cons_zero, List.set_cons_succ]
        refine f_len 0 26 #[.pointer (some ⟨d, 0, none⟩)] (by rfl) (by intro w' hC; clear hC; go_simp) ?_ ?_
        · intro w' hC; exact HLI.out w' hC
        intro LA0 lc0
        simp only [Act.put, List.setIfInBounds_toArray, List.set_cons_zero, List.set_cons_succ]
        refine f_val (.int .i64 0) (by rfl) ?_ ?_
        · intro w' hC; clear hC; first | (go_simp; done)
        simp only [Act.put, List.setIfInBounds_toArray, List.set_cons_zero, List.set_cons_succ]
        refine f_val (.bool false) (by rfl) ?_ ?_
        · intro w' hC; clear hC; first | (go_simp; done)
        simp only [Act.put, List.setIfInBounds_toArray, List.set_cons_zero, List.set_cons_succ]
        refine f_val (.bool false) (by rfl) ?_ ?_
        · intro w' hC; clear hC; first | (go_simp; done)
        simp only [Act.put, List.setIfInBounds_toArray, List.set_cons_zero, List.set_cons_succ]
        refine f_val (.bool true) (by rfl) ?_ ?_
        · intro w' hC; clear hC; first | (go_simp; done)
        simp only [Act.put, List.setIfInBounds_toArray, List.set_cons_zero, List.set_cons_succ]
        refine f_val (.bool true) (by rfl) ?_ ?_
        · intro w' hC; clear hC; first | (go_simp; done)
        simp only [Act.put, List.setIfInBounds_toArray, List.set_cons_zero, List.set_cons_succ]
        refine f_val (.bool true) (by rfl) ?_ ?_
        · intro w' hC; clear hC; first | (go_simp; done)
        simp only [Act.put, List.setIfInBounds_toArray, List.set_cons_zero, List.set_cons_succ]
        refine f_val (.pointer (some ⟨d, 0, none⟩)) (by rfl) ?_ ?_
        · intro w' hC; clear hC; first | (go_simp; done)
        simp only [Act.put, List.setIfInBounds_toArray, List.set_cons_zero, List.set_cons_succ]
        refine f_call 27 #[.pointer (some ⟨d, 0, none⟩)] (.int .i64 0) (by rfl) (by intro w' hC; clear hC; go_simp) ?_ ?_
        · intro w' hC hks; exact HUS.out w' hC
        simp only [Act.put, List.setIfInBounds_toArray, List.set_cons_zero, List.set_cons_succ]
        refine f_val (.agg #[.slice LA ln lc, .int .i64 nx]) (by rfl) ?_ ?_
        · intro w' hC; obtain ⟨z0, z1⟩ := HC.out w' hC; clear hC; first | (go_simp; done)
        simp only [Act.put, List.setIfInBounds_toArray, List.set_cons_zero, List.set_cons_succ]
        refine f_len pl 14 #[.agg #[.slice LA ln lc, .int .i64 nx]] (by rfl) (by intro w' hC; clear hC; go_simp) ?_ ?_
        · intro w' hC; exact HPU.out w' hC
        intro LApl lcpl
        simp only [Act.put, List.setIfInBounds_toArray, List.set_cons_zero, List.set_cons_succ]
        refine f_val (.int .i64 (pl : Nat)) (by rfl) ?_ ?_
        · intro w' hC; clear hC; first | (go_simp; done)
        simp only [Act.put, List.setIfInBounds_toArray, List.set_cons_zero, List.set_cons_succ]
        refine f_val (.bool false) (by rfl) ?_ ?_
        · intro w' hC; clear hC; first | (go_simp; done)
        simp only [Act.put, List.setIfInBounds_toArray, List.set_cons_zero, List.set_cons_succ]
        refine f_call 28 #[.bool false] (.int .i64 0) (by rfl) (by intro w' hC; clear hC; go_simp) ?_ ?_
        · intro w' hC hks; exact many_false w'
        simp only [Act.put, List.setIfInBounds_toArray, List.set_cons_zero, List.set_cons_succ]
        refine f_val (.int .i64 0) (by rfl) ?_ ?_
        · intro w' hC; clear hC; first | (go_simp; done) | (go_simp; exact hwp2) | (go_simp; exact hw0)
        simp only [Act.put, List.setIfInBounds_toArray, List.set_cons_zero, List.set_cons_succ]
        refine f_val (.bool true) (by rfl) ?_ ?_
        · intro w' hC; clear hC; first | (go_simp; done)
        simp only [Act.put, List.setIfInBounds_toArray, List.set_cons_zero, List.set_cons_succ]
        refine f_val (.bool true) (by rfl) ?_ ?_
        · intro w' hC; clear hC; first | (go_simp; done)
        simp only [Act.put, List.setIfInBounds_toArray, List.set_cons_zero, List.set_cons_succ]
        refine f_val (.bool true) (by rfl) ?_ ?_
        · intro w' hC; clear hC; first | (go_simp; done)
        simp only [Act.put, List.setIfInBounds_toArray, List.set_cons_zero, List.set_cons_succ]
        refine wpF_end ?_
        intro w9 hC hks
        have HCw9 := Lib.hid hC
        clear hC hks
        go_wp2_with (fail)
        go_ret
        exact ⟨rfl, HW.out.low.trans (Below.mono HCw9.out HW.out.size)⟩

set_option maxRecDepth 100000 in
theorem manAgain_lifted (os : Os) (started : os.Started) (H : Type) (enc : TypeId × Value → H) :
    ReturnsInHanded {} Try.checked os 7 .any (Rows.manAgainSpec.pre6 enc Try.prog Try.f7 Rows.manAgainRow.domain false) (Rows.manAgainSpec.post enc Try.prog Try.f7 false true false false) := by
  refine lift_law (C := Try.checked) H enc own started (by kernel_rfl) Try.func7
    (ChangeSpec.witness6 (enc := enc) (C := Try.checked) false ⟨#[], #[.slice none 0 0], []⟩ 16 (by kernel_rfl) (by kernel_rfl) (by kernel_rfl) (by kernel_rfl))
    laidOut (of_readable (by kernel_rfl)) rfl Try.underlying4 rfl (fun ds hd => ?_) (fun W base args ds p hval hA hsz => ?_)
  · match ds, hd with
    | [d1], _ => rfl
  · rw [Try.params7] at hA hval hsz
    obtain ⟨v0, vs0, d0, ds0, p0, q0, hargs, rfl, rfl, h0, r0⟩ := trodAll_cons hA
    obtain ⟨rfl, rfl, rfl⟩ := trodAll_nil r0
    obtain rfl : args = #[v0] := by cases args; simp_all
    obtain ⟨A0, n0, c0, xs0, rfl, hx0⟩ := open_mans (hval 0 33 v0 rfl rfl) h0
    exact manAgain_law W A0 n0 c0 xs0 hx0

theorem manAgain_over : Rows.manAgainRow.holds Try.pinned (OpenSpec.ofChange Rows.manAgainSpec) :=
  OpenClaim.holds_of_wide 7 Try.f7 rfl rfl rfl rfl rfl rfl rfl ⟨rfl, rfl, rfl, rfl, rfl⟩ rfl rfl rfl rfl rfl (by kernel_rfl) Try.func7 (by kernel_rfl)
    (of_decide_eq_true (by kernel_rfl)) (by unfold Func.isWrapper; first | (rw [if_pos (by decide +kernel)]; kernel_rfl) | (rw [if_neg (by decide +kernel)]; exact ⟨rfl, rfl⟩))
    (fun os started H enc _ => manAgain_lifted os started H enc)
theorem manAgain_holds : Rows.ManAgainSaid := manAgain_over
end Go.Proofs.Ytdkpbphgaenlnaa
