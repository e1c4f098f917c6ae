/-
  Statement ManSwaps: whatever fails while one manifest is saved, and however power fails then: behind it there is the one that was, or that one, whole; that one, if Save was OK. Any manifests, any numbers, no condition.
-/
import Derived.Test.YtdkpbphgaenlnaaMU
import Derived.Test.YtdkpbphgaenlnaaCame
import Derived.ProofKit
import Derived.ChangeOld
namespace Go.Proofs.Ytdkpbphgaenlnaa
open Go.ChangeShapes Go.WideShapes Go.ChangeAt Go.RowKit
set_option linter.unusedSimpArgs false
set_option linter.unusedVariables false
theorem less_oneM {k n : Nat} (h : k < n) : n - (intOf (Value.int IntKind.i64 ((k : Int) + 1))).toNat < n - (intOf (Value.int IntKind.i64 (k : Int))).toNat := by
  simp only [intOf]
  omega
theorem ints_block {W : World} {A : Option Addr} {n c : Nat} {xs : List Int} (h : Ints W A n c xs) : ∀ ad, A = some ad → xs ≠ [] → ad.block < W.heap.size := fun ad e hne => by
  obtain ⟨x, r, rfl⟩ := List.exists_cons_of_ne_nil hne
  obtain ⟨ad', h1, h2, _⟩ := h.row.spot 0 (iV x) rfl
  rw [e] at h1
  injection h1 with h1
  rw [h1]
  exact h2
set_option maxRecDepth 100000 in
theorem open_i64b {H : Type} {enc : TypeId × Value → H} {W : World} {base : Nat} {r : Reach} {v : Value} {d : DataW H} {p : List MemPlace} (hv : Value.okWide Try.prog W r base 22 v) (h : DataW.Trod enc Try.prog W 0 (fun _ => true) true 22 v d p) :
    ∃ A n c xs, v = .slice A n c ∧ Ints W A n c xs ∧ ∀ x ∈ xs, -9223372036854775808 ≤ x ∧ x ≤ 9223372036854775807 := by
  obtain ⟨A, n, c, rfl⟩ := okWide_slice Try.underlying22 hv
  obtain ⟨fuel, hf⟩ := h
  obtain ⟨A', n', c', xs, h1, h2, _, h3⟩ := open_isM (a := .slice A n c) hf
  exact ⟨A', n', c', xs, h1, h2, h3⟩
set_option maxHeartbeats 16000000 in
set_option maxRecDepth 100000 in
theorem manSwaps_law (w : World) (A0 : Option Addr) (n0 c0 : Nat) (ls : List Mn) (hl : Mans w A0 n0 c0 ls) (A1 : Option Addr) (n1 c1 : Nat) (x : Mn) (hx : MnIn w A1 n1 c1 x) (fl : Int) (hfl : 0 ≤ fl ∧ fl ≤ 255) (ct : Bool) (dr : Int) (hdr : 0 ≤ dr ∧ dr ≤ 255) (A5 : Option Addr) (n5 c5 : Nat) (bs : List Int) (hb : Ints w A5 n5 c5 bs) (hbb : ∀ x ∈ bs, -9223372036854775808 ≤ x ∧ x ≤ 9223372036854775807) :
    Calls Try.prog 5 #[.slice A0 n0 c0, .agg #[.slice A1 n1 c1, .int .i64 x.next], .int .u8 fl, .bool ct, .int .u8 dr, .slice A5 n5 c5] w fun e w' => e = .returned (.bool true) ∧ Below w.heap.size w w' := by
  have hg1 := grows_alloc w (.cells #[.slice A1 n1 c1, .int .i64 x.next] 24)
  have hm1 := Whole.made w 24 #[.slice A1 n1 c1, .int .i64 x.next]
  obtain ⟨w1, hw1⟩ : ∃ y, w.alloc (.cells #[.slice A1 n1 c1, .int .i64 x.next] 24) = y := ⟨_, rfl⟩
  rw [hw1] at hg1 hm1
  have HX := Lib.hid hx
  have HM := Lib.hid hm1
  have HG := Lib.hid hg1
  have HL := Lib.hid hl
  have HBY := Lib.hid (show Ints w A5 n5 c5 bs ∧ (∀ x ∈ bs, -9223372036854775808 ≤ x ∧ x ≤ 9223372036854775807) ∧ ∀ ad, A5 = some ad → bs ≠ [] → ad.block < w.heap.size from ⟨hb, hbb, ints_block hb⟩)
  obtain ⟨nx, hnx⟩ : ∃ nx, x.next = nx := ⟨_, rfl⟩
  rw [hnx] at HM hw1 ⊢
  have HNX := Lib.hid hnx
  obtain ⟨fk, hfk⟩ : ∃ z, fl.tmod 8 = z := ⟨_, rfl⟩
  obtain ⟨dk, hdk⟩ : ∃ z, dr.tmod 8 = z := ⟨_, rfl⟩
  have hfb : 0 ≤ fk ∧ fk < 8 := by rw [← hfk]; exact ⟨Int.tmod_nonneg _ hfl.1, Int.tmod_lt_of_pos fl (by omega)⟩
  have hdb : 0 ≤ dk ∧ dk < 8 := by rw [← hdk]; exact ⟨Int.tmod_nonneg _ hdr.1, Int.tmod_lt_of_pos dr (by omega)⟩
  have f1 : IntKind.u8.wrap fk = fk := by rw [IntKind.wrap_u8]; omega
  have f2 : IntKind.i64.wrap fk = fk := IntWalk.i64_in _ (by omega)
  have f3 : IntKind.u8.wrap dk = dk := by rw [IntKind.wrap_u8]; omega
  have f4 : IntKind.i64.wrap dk = dk := IntWalk.i64_in _ (by omega)
  clear hx hg1 hm1 hnx hl hb hbb
  go_enter Try.func5, Try.ntmps5
  go_wp2_with (fail)
  refine (head10_any w1).mono ?_
  rintro e w2 ⟨rfl, hb2⟩
  have hb2 : Grows w1 w2 := hb2
  have HG2 := Lib.hid (HG.out.trans hb2)
  have HM2 := Lib.hid (hb2.whole HM.out)
  clear hb2 hw1 HM
  go_wp2_with (fail)
  refine (new_any w2 1048576).mono ?_
  rintro e w3 ⟨d, rfl, hn⟩
  have hgn : Grows w2 w3 := by obtain ⟨_, _, _, _, _, h⟩ := hn; exact h
  have HD := Lib.hid (show DkIn w.heap.size w w3 d (fun k => k = w.heap.size) (Dk.new 1048576) from DkIn.new hn HG2.out.size HG2.out (fun k h => by rw [h]; exact HM2.out.lt))
  have hm3 := hgn.whole HM2.out
  have HM3 := Lib.hid hm3
  have q0 := hm3.cell 0
  have q1 := hm3.cell 1
  simp only [List.getElem?_toArray, List.getElem?_cons_zero, List.getElem?_cons_succ] at q0 q1
  clear hn hgn hm3 HM2
  by_cases h20 : n0 ≤ 20
  rotate_left 1
  · have h20' : (n0 : Int) > 20 := by omega
    go_wp2_with (fail)
    go_ret
    exact ⟨rfl, HD.out.low⟩
  have h20' : ¬ ((n0 : Int) > 20) := by omega
  by_cases h21 : n1 ≤ 2000
  rotate_left 1
  · have h21' : (n1 : Int) > 2000 := by omega
    go_wp2_with (fail)
    go_ret
    exact ⟨rfl, HD.out.low⟩
  have h21' : ¬ ((n1 : Int) > 2000) := by omega
  by_cases h90 : n5 ≤ 900
  rotate_left 1
  · have h90' : (n5 : Int) > 900 := by omega
    go_wp2_with (fail)
    go_ret
    exact ⟨rfl, HD.out.low⟩
  have h90' : ¬ ((n5 : Int) > 900) := by omega
  have g4 := grows_alloc w3 (.cells #[.slice none 0 0, .int .i64 0] 24)
  have m4 := Whole.made w3 24 #[.slice none 0 0, .int .i64 0]
  have HD4 := Lib.hid ((HD.out.more g4).less (out' := fun k => k = w.heap.size ∨ k = w3.heap.size) fun k hk => hk.imp id fun e => ⟨by omega, by rw [World.size_alloc]; omega⟩)
  have HM4 := Lib.hid m4
  have HB4 := Lib.hid (g4.whole HM3.out)
  have HBS := Lib.hid (show w.heap.size < w3.heap.size from HM3.out.lt)
  clear g4 m4
  go_wp2_with (fail)
  clear q0 q1
  obtain ⟨g5, hg5⟩ : ∃ g, w3.heap.size = g := ⟨_, rfl⟩
  rw [hg5] at HM4 HD4 HBS ⊢
  go_loopw [16, 17] (fun tv iv wr => ∃ (j : Nat) (m : Dk) (o : Option (Nat × Mn)) (LA : Option Addr) (ln lc : Nat), j ≤ n0 ∧ iv = .int .i64 (j : Nat) ∧ tv = .bool o.isSome ∧ Hid (DkIn w.heap.size w wr d (fun k => k = w.heap.size ∨ k = g5) m) ∧ Hid (DkOk (j * 4100) m ∧ SS true m o) ∧
    Hid (Whole wr g5 24 #[.slice LA ln lc, .int .i64 (lastO o).1.next]) ∧ Hid (MnIn w LA ln lc (lastO o).1 ∧ ln ≤ 2000) ∧ Hid (Whole wr w.heap.size 24 #[.slice A1 n1 c1, .int .i64 nx])) (fun _ i _ => n0 - (intOf i).toNat)
  case atStart => exact ⟨0, Dk.new 1048576, none, none, 0, 0, Nat.zero_le _, rfl, rfl, HD4, Lib.hid ⟨(DkOk.new 1048576).mono (by omega), SS.new _ (by omega)⟩, HM4, Lib.hid ⟨MnIn.of ⟨Row.nil _ _ _, Nat.le_refl _, fun _ => rfl⟩ (by intro y hy; cases hy) (by show In64 0; unfold In64; omega), by omega⟩, HB4⟩
  case round =>
    obtain ⟨j, m, o, LA, ln, lc, hj, rfl, rfl, HW, HSS, HMM, HLA, HBX⟩ := hrel
    clear HD HD4 HM4 HB4 HM3
    obtain ⟨io, hio⟩ : ∃ b, o.isSome = b := ⟨_, rfl⟩
    rw [hio]
    have HIO := Lib.hid hio
    clear hio
    by_cases hlt : j < n0
    · have hlt' : (j : Int) < (n0 : Int) := by omega
      have hj0 : (0 : Int) ≤ (j : Int) := by omega
      have hwj : IntKind.i64.wrap ((j : Int) + 1) = (j : Int) + 1 := IntWalk.i64_in _ (by omega)
      have HK := Lib.hid (show (j + 1) * 4100 ≤ 200000 ∧ j ≤ 30 by omega)
      obtain ⟨ad, y, ⟨XA, xn, xc⟩, rfl, hblk, hxi, hin, hcs⟩ := HL.out.spot j hlt
      obtain ⟨p0, p1⟩ := mn_cells (by rw [add_block]; exact hblk) hcs HW.out.low
      dsimp only at p0 hin
      have HCX := Lib.hid (show ∀ w', Below w.heap.size w w' → w'.cell? (ad.add (j * 2)) = some (.slice XA xn xc) ∧ w'.cell? { block := (ad.add (j * 2)).block, off := (ad.add (j * 2)).off + 1 } = some (.int .i64 y.next) from fun w' hC => mn_cells (by rw [add_block]; exact hblk) hcs hC)
      have HIN := Lib.hid hin
      have HLT := Lib.hid hlt
      obtain ⟨r, hr⟩ : ∃ r, rightM y = r := ⟨_, rfl⟩
      have HR := Lib.hid hr
      obtain ⟨xx, hxx⟩ : ∃ z, y.next = z := ⟨_, rfl⟩
      have HXX := Lib.hid hxx
      rw [hxx] at p1 HCX
      clear hblk hxi hin hcs hr hxx hlt
      by_cases b2 : xn ≤ 2000
      rotate_left 1
      · have b2' : (xn : Int) > 2000 := by omega
        go_wp2_with (fail)
        go_ret
        exact ⟨rfl, HW.out.low⟩
      have b2' : ¬ ((xn : Int) > 2000) := by omega
      have hsa := msave_any wr XA xn xc y (HIN.out.grow HW.out.low) HW.out HSS.out.1 (by have := HK.out; omega)
      rw [HXX.out] at hsa
      cases r with
      | false =>
        rw [SS.ill HR.out] at hsa
        have HSA := Lib.hid hsa
        clear hsa
        go_wp2_with (fail)
        refine HSA.out.mono ?_
        rintro e w5 ⟨rfl, hd5, hst5⟩
        have HD5 := Lib.hid hd5
        have HM5 := Lib.hid (HMM.out.same (hst5.same g5 HMM.out.lt fun h => h.2 (.inr rfl)))
        have HB5 := Lib.hid (HBX.out.same (hst5.same w.heap.size HBX.out.lt fun h => h.2 (.inl rfl)))
        have HS5 := Lib.hid (And.intro (HSS.out.1.mono (show j * 4100 ≤ (j + 1) * 4100 by omega)) HSS.out.2)
        clear hd5 hst5 p0 p1 HSA
        go_wp2_with (fail)
        exact ⟨⟨j + 1, m, o, LA, ln, lc, HLT.out, rfl, by rw [HIO.out], HD5, HS5, HM5, HLA, HB5⟩, less_oneM HLT.out⟩
      | true =>
        rcases HSS.out.2.save HR.out with ⟨hs0, hss1⟩ | ⟨hwl, _⟩
        rotate_left 1
        · cases hwl
        have hok1 := HSS.out.1.save y
        obtain ⟨⟨m1, e1⟩, hsv⟩ : ∃ q, saveP m y = q := ⟨_, rfl⟩
        rw [hsv] at hs0 hss1 hok1 hsa
        dsimp only at hs0 hss1 hok1
        subst hs0
        obtain ⟨mm, hmm⟩ : ∃ z, m.made = z := ⟨_, rfl⟩
        rw [hmm] at hss1
        have HSA := Lib.hid hsa
        have HS7 := Lib.hid (And.intro (hok1.mono (show j * 4100 + 4100 ≤ (j + 1) * 4100 by omega)) hss1)
        clear hsa hsv hss1 hok1 hmm
        go_wp2_with (fail)
        refine HSA.out.mono ?_
        rintro e w6 ⟨rfl, hd5, hst5⟩
        have HD6 := Lib.hid hd5
        have HM6 := Lib.hid (HMM.out.same (hst5.same g5 HMM.out.lt fun h => h.2 (.inr rfl)))
        have HB6 := Lib.hid (HBX.out.same (hst5.same w.heap.size HBX.out.lt fun h => h.2 (.inl rfl)))
        have hm6 := HM6.out
        obtain ⟨p4, p5⟩ := HCX.out w6 HD6.out.low
        have k0 := hm6.free 0
        have k1 := hm6.free 1
        have k2 := hm6.cell 0
        have k3 := hm6.cell 1
        simp only [List.getElem?_toArray, List.getElem?_cons_zero, List.getElem?_cons_succ] at k0 k1 k2 k3
        have hsp : Spares (fun k => k = g5) w6 ((w6.setCell ⟨g5, 0, none⟩ (.slice XA xn xc)).setCell ⟨g5, 1, none⟩ (.int .i64 xx)) := ((Spares.refl (fun k => k = g5) w6).setCell (p := ⟨g5, 0, none⟩) rfl _).setCell (p := ⟨g5, 1, none⟩) rfl _
        have HD7 := Lib.hid (HD6.out.other hsp (fun k hk _ => .inr hk) fun k hk => by rw [hk]; exact Nat.le_of_lt HBS.out)
        have HB7 := Lib.hid (HB6.out.same (hsp.same w.heap.size HB6.out.lt (by have := HBS.out; omega)))
        have HM7 := Lib.hid (show Whole ((w6.setCell ⟨g5, 0, none⟩ (.slice XA xn xc)).setCell ⟨g5, 1, none⟩ (.int .i64 xx)) g5 24 #[.slice XA xn xc, .int .i64 (lastO (some (mm, y))).1.next] from by
          rw [show (lastO (some (mm, y))).1.next = xx from HXX.out]
          exact (HM6.out.put 0 _).put 1 _)
        have HLL := Lib.hid b2
        clear hm6 hsp hd5 hst5 p0 p1 HSA
        go_wp2_with (fail)
        exact ⟨⟨j + 1, m1, some (mm, y), XA, xn, xc, HLT.out, rfl, rfl, HD7, HS7, HM7, Lib.hid ⟨HIN.out, HLL.out⟩, HB7⟩, less_oneM HLT.out⟩
    · obtain rfl : j = n0 := by omega
      have hlt' : ¬ ((j : Int) < (j : Int)) := by omega
      have HK := Lib.hid (show j * 4100 ≤ 200000 by omega)
      obtain ⟨wn, hwn⟩ : ∃ z, (lastO o).1.next = z := ⟨_, rfl⟩
      rw [hwn] at HMM
      have HWN := Lib.hid hwn
      clear hwn
      cases ct with
      | true =>
        go_wp2_with (fail)
        refine (cut_in fk HW.out).mono ?_
        rintro e w6 ⟨rfl, hd6, hst6⟩
        obtain ⟨mq, hmq⟩ : ∃ z, m.setCut fk = z := ⟨_, rfl⟩
        have hsq : SS false (m.setCut fk) o := HSS.out.2.set ⟨rfl, rfl, rfl, rfl, rfl, rfl, rfl⟩ rfl
        have hoq := HSS.out.1.cuts fk (by omega)
        rw [hmq] at hd6 hsq hoq
        have HD6 := Lib.hid hd6
        have HSQ := Lib.hid hsq
        have HOK6 := Lib.hid hoq
        have hb6 := HBX.out.same (hst6.same w.heap.size HBX.out.lt fun h => h.2 (.inl rfl))
        have HB6 := Lib.hid hb6
        have HM6 := Lib.hid (HMM.out.same (hst6.same g5 HMM.out.lt fun h => h.2 (.inr rfl)))
        have k0 := hb6.cell 0
        have k1 := hb6.cell 1
        simp only [List.getElem?_toArray, List.getElem?_cons_zero, List.getElem?_cons_succ] at k0 k1
        clear hd6 hst6 hmq hsq hoq hb6
        go_wp2_with (fail)
        clear k0 k1
        obtain ⟨⟨m1, er⟩, hsv⟩ : ∃ q, saveP mq x = q := ⟨_, rfl⟩
        have hsa := msave_any w6 A1 n1 c1 x (HX.out.grow HD6.out.low) HD6.out HOK6.out (by have := HK.out; omega)
        rw [HNX.out, hsv] at hsa
        have hok7 := HOK6.out.save x
        rw [hsv] at hok7
        have HOK7 := Lib.hid hok7
        have HSA := Lib.hid hsa
        have hcase : (er = 0 ∧ rightM x = true ∧ m1.down = false ∧ ∀ l, loadP (m1.boot dk l) = (x, true, 0)) ∨ (er ≠ 0 ∧ Ends m1 o x) := by
          cases hrx : rightM x with
          | false =>
            have e := SS.ill (m := mq) hrx
            rw [hsv] at e
            injection e with e1 e2
            subst e1 e2
            exact .inr ⟨by decide, HSQ.out.ends x⟩
          | true =>
            rcases HSQ.out.save hrx with ⟨h0, h1⟩ | ⟨_, h0, h1⟩
            · rw [hsv] at h0 h1
              dsimp only at h0 h1
              refine .inl ⟨h0, rfl, h1.down, fun l => ?_⟩
              rcases (h1.ends x).boot dk l with e | ⟨_, e⟩
              · exact e
              · exact e
            · rw [hsv] at h0 h1
              exact .inr ⟨h0, h1⟩
        have HCS := Lib.hid hcase
        clear hsv hsa hok7 hcase
        refine HSA.out.mono ?_
        rintro e w7 ⟨rfl, hd7, hst7⟩
        have HD7 := Lib.hid hd7
        have HM7 := Lib.hid (HM6.out.same (hst7.same g5 HM6.out.lt fun h => h.2 (.inr rfl)))
        have HB7 := Lib.hid (HB6.out.same (hst7.same w.heap.size HB6.out.lt fun h => h.2 (.inl rfl)))
        clear hd7 hst7 HSA
        rcases HCS.out with ⟨he0, hrx, hdn, hld⟩ | ⟨he, hen⟩
        · subst he0
          have HLD := Lib.hid (hld bs)
          have HRX := Lib.hid hrx
          have hdw := down_in HD7.out
          rw [hdn] at hdw
          have HLM := Lib.hid (show x.segs.length ≤ 1000000 by have := rightM_len hrx; omega)
          have HDW := Lib.hid hdw
          clear hdw hdn hld hrx
          go_wp2_with (fail)
          refine HDW.out.mono ?_
          rintro e wq ⟨rfl, rfl⟩
          go_wp2_with (fail)
          refine (boot_in dk HD7.out HOK7.out (by have := HK.out; omega) (HBY.out.1.grow HD7.out.low) HBY.out.2.1 (fun ad e hne => .inl (HBY.out.2.2 ad e hne))).mono ?_
          rintro e w8 ⟨rfl, hd8, hst8⟩
          have HD8 := Lib.hid hd8
          have HOK8 := Lib.hid (HOK7.out.boot dk bs)
          have HM8 := Lib.hid (HM7.out.same (hst8.same g5 HM7.out.lt fun h => h.2 (.inr rfl)))
          have HB8 := Lib.hid (HB7.out.same (hst8.same w.heap.size HB7.out.lt fun h => h.2 (.inl rfl)))
          clear hd8 hst8
          go_wp2_with (fail)
          have hlo := mload_any w8 HD8.out HOK8.out (by have := HK.out; omega)
          rw [HLD.out] at hlo
          refine hlo.mono ?_
          clear hlo
          rintro e w9 ⟨A9, k9, c9, rfl, ho, hg⟩
          dsimp only at ho
          have ga := grows_alloc w9 (.cells #[.slice A9 k9 c9, .int .i64 x.next] 24)
          have hgg := Grows.trans hg ga
          have HDZ := Lib.hid (HD8.out.grow hgg)
          have HY10 := Lib.hid (show Ints (w9.alloc (.cells #[.slice A9 k9 c9, .int .i64 x.next] 24)) A9 k9 c9 x.segs from Ints.owned (owned_from (owned_grow ho ga) (Nat.zero_le _)))
          have HU10 := Lib.hid (Whole.made w9 24 #[.slice A9 k9 c9, .int .i64 x.next])
          have HM10 := Lib.hid (hgg.whole HM8.out)
          have HB10 := Lib.hid (hgg.whole HB8.out)
          have hlens := HY10.out.len
          have HLENS := Lib.hid (show k9 ≤ 1000000 by have h1 := HLM.out; omega)
          have hny : x.next = nx := HNX.out
          obtain ⟨w10, hw10⟩ : ∃ z, w9.alloc (.cells #[.slice A9 k9 c9, .int .i64 x.next] 24) = z := ⟨_, rfl⟩
          rw [hw10] at HDZ HY10 HU10 HM10 HB10
          rw [hny] at HU10 hw10
          obtain ⟨g9, hg9⟩ : ∃ z, w9.heap.size = z := ⟨_, rfl⟩
          rw [hg9] at HU10
          have HC := Lib.hid (show ∀ w', Grows w10 w' → (w'.cell? { block := g9, off := 0 } = some (.slice A9 k9 c9) ∧ w'.cell? { block := g9, off := 1 } = some (.int .i64 nx)) ∧ (w'.cell? { block := g5, off := 0 } = some (.slice LA ln lc) ∧ w'.cell? { block := g5, off := 1 } = some (.int .i64 wn)) ∧ w'.cell? { block := w.heap.size, off := 0 } = some (.slice A1 n1 c1) ∧ w'.cell? { block := w.heap.size, off := 1 } = some (.int .i64 nx) from fun w' hC => ⟨⟨(hC.whole HU10.out).cell 0, (hC.whole HU10.out).cell 1⟩, ⟨(hC.whole HM10.out).cell 0, (hC.whole HM10.out).cell 1⟩, (hC.whole HB10.out).cell 0, (hC.whole HB10.out).cell 1⟩)
          have HG10 := Lib.hid (Grows.refl w10)
          obtain ⟨⟨z0, z1⟩, ⟨z2, z3⟩, z4, z5⟩ := HC.out w10 HG10.out
          dsimp only
          rw [hny]
          clear ho hg ga hgg hny hlens
          cases io with
          | true =>
            go_wp2_with (fail)
            clear hw10 hg9 z0 z1 z2 z3 z4 z5
            have hrt := mright_any w10 A1 n1 c1 x (HX.out.grow HDZ.out.low)
            rw [HNX.out, HRX.out] at hrt
            refine hrt.mono ?_
            clear hrt
            rintro e w11 ⟨rfl, hg⟩
            have HG11 := Lib.hid (HG10.out.trans hg)
            have HDZ := Lib.hid (HDZ.out.grow hg)
            clear hg
            obtain ⟨⟨z0, z1⟩, ⟨z2, z3⟩, z4, z5⟩ := HC.out w11 HG11.out
            go_wp2_with (fail)
            clear z0 z1 z2 z3 z4 z5
            have hsm := msame_any w11 A9 k9 c9 x A1 n1 c1 x (HY10.out.grow HG11.out) (HX.out.segs.grow HDZ.out.low) (by have h1 := HY10.out.len; have h2 := HLENS.out; omega)
            rw [decide_eq_true rfl] at hsm
            rw [HNX.out] at hsm
            refine hsm.mono ?_
            clear hsm
            rintro e w12 ⟨rfl, hg⟩
            have HG12 := Lib.hid (HG11.out.trans hg)
            have HDZ := Lib.hid (HDZ.out.grow hg)
            clear hg
            obtain ⟨⟨z0, z1⟩, ⟨z2, z3⟩, z4, z5⟩ := HC.out w12 HG12.out
            go_wp2_with (fail)
            clear z0 z1 z2 z3 z4 z5
            have hsm := msame_any w12 A9 k9 c9 x LA ln lc (lastO o).1 (HY10.out.grow HG12.out) (HLA.out.1.segs.grow HDZ.out.low) (by have h1 := HY10.out.len; have h2 := HLENS.out; omega)
            obtain ⟨b2, hb2⟩ : ∃ b : Bool, decide (x = (lastO o).1) = b := ⟨_, rfl⟩
            rw [hb2, HNX.out, HWN.out] at hsm
            clear hb2
            refine hsm.mono ?_
            clear hsm
            rintro e w13 ⟨rfl, hg⟩
            have HG13 := Lib.hid (HG12.out.trans hg)
            have HDZ := Lib.hid (HDZ.out.grow hg)
            clear hg
            obtain ⟨⟨z0, z1⟩, ⟨z2, z3⟩, z4, z5⟩ := HC.out w13 HG13.out
            cases b2 with
            | true =>
              go_wp2_with (fail)
              go_ret
              exact ⟨rfl, HDZ.out.low⟩
            | false =>
              go_wp2_with (fail)
              go_ret
              exact ⟨rfl, HDZ.out.low⟩
          | false =>
            go_wp2_with (fail)
            clear hw10 hg9 z0 z1 z2 z3 z4 z5
            have hrt := mright_any w10 A1 n1 c1 x (HX.out.grow HDZ.out.low)
            rw [HNX.out, HRX.out] at hrt
            refine hrt.mono ?_
            clear hrt
            rintro e w11 ⟨rfl, hg⟩
            have HG11 := Lib.hid (HG10.out.trans hg)
            have HDZ := Lib.hid (HDZ.out.grow hg)
            clear hg
            obtain ⟨⟨z0, z1⟩, ⟨z2, z3⟩, z4, z5⟩ := HC.out w11 HG11.out
            go_wp2_with (fail)
            clear z0 z1 z2 z3 z4 z5
            have hsm := msame_any w11 A9 k9 c9 x A1 n1 c1 x (HY10.out.grow HG11.out) (HX.out.segs.grow HDZ.out.low) (by have h1 := HY10.out.len; have h2 := HLENS.out; omega)
            rw [decide_eq_true rfl] at hsm
            rw [HNX.out] at hsm
            refine hsm.mono ?_
            clear hsm
            rintro e w12 ⟨rfl, hg⟩
            have HG12 := Lib.hid (HG11.out.trans hg)
            have HDZ := Lib.hid (HDZ.out.grow hg)
            clear hg
            obtain ⟨⟨z0, z1⟩, ⟨z2, z3⟩, z4, z5⟩ := HC.out w12 HG12.out
            go_wp2_with (fail)
            clear z0 z1 z2 z3 z4 z5
            go_ret
            exact ⟨rfl, HDZ.out.low⟩
        · have heb : (er == 0) = false := by rw [beq_eq_false_iff_ne]; exact he
          have hec : (er != 0) = true := by rw [bne_iff_ne]; exact he
          have hen2 := hen.boot dk bs
          clear he hen
          rcases hen2 with hld | ⟨hrx, hld⟩
          · have HLD := Lib.hid (hld.trans (lastO_eq o))
            obtain ⟨r, hrx⟩ : ∃ r, rightM x = r := ⟨_, rfl⟩
            have HRX := Lib.hid hrx
            have HLM := Lib.hid (show (lastO o).1.segs.length ≤ 1000000 by have h1 := HLA.out.1.segs.len; have h2 := HLA.out.2; omega)
            clear hld hrx
            go_wp2_with (fail)
            refine (boot_in dk HD7.out HOK7.out (by have := HK.out; omega) (HBY.out.1.grow HD7.out.low) HBY.out.2.1 (fun ad e hne => .inl (HBY.out.2.2 ad e hne))).mono ?_
            rintro e w8 ⟨rfl, hd8, hst8⟩
            have HD8 := Lib.hid hd8
            have HOK8 := Lib.hid (HOK7.out.boot dk bs)
            have HM8 := Lib.hid (HM7.out.same (hst8.same g5 HM7.out.lt fun h => h.2 (.inr rfl)))
            have HB8 := Lib.hid (HB7.out.same (hst8.same w.heap.size HB7.out.lt fun h => h.2 (.inl rfl)))
            clear hd8 hst8
            go_wp2_with (fail)
            have hlo := mload_any w8 HD8.out HOK8.out (by have := HK.out; omega)
            rw [HLD.out] at hlo
            refine hlo.mono ?_
            clear hlo
            rintro e w9 ⟨A9, k9, c9, rfl, ho, hg⟩
            dsimp only at ho
            have ga := grows_alloc w9 (.cells #[.slice A9 k9 c9, .int .i64 (lastO o).1.next] 24)
            have hgg := Grows.trans hg ga
            have HDZ := Lib.hid (HD8.out.grow hgg)
            have HY10 := Lib.hid (show Ints (w9.alloc (.cells #[.slice A9 k9 c9, .int .i64 (lastO o).1.next] 24)) A9 k9 c9 (lastO o).1.segs from Ints.owned (owned_from (owned_grow ho ga) (Nat.zero_le _)))
            have HU10 := Lib.hid (Whole.made w9 24 #[.slice A9 k9 c9, .int .i64 (lastO o).1.next])
            have HM10 := Lib.hid (hgg.whole HM8.out)
            have HB10 := Lib.hid (hgg.whole HB8.out)
            have hlens := HY10.out.len
            have HLENS := Lib.hid (show k9 ≤ 1000000 by have h1 := HLM.out; omega)
            have hny : (lastO o).1.next = wn := HWN.out
            obtain ⟨w10, hw10⟩ : ∃ z, w9.alloc (.cells #[.slice A9 k9 c9, .int .i64 (lastO o).1.next] 24) = z := ⟨_, rfl⟩
            rw [hw10] at HDZ HY10 HU10 HM10 HB10
            rw [hny] at HU10 hw10
            obtain ⟨g9, hg9⟩ : ∃ z, w9.heap.size = z := ⟨_, rfl⟩
            rw [hg9] at HU10
            have HC := Lib.hid (show ∀ w', Grows w10 w' → (w'.cell? { block := g9, off := 0 } = some (.slice A9 k9 c9) ∧ w'.cell? { block := g9, off := 1 } = some (.int .i64 wn)) ∧ (w'.cell? { block := g5, off := 0 } = some (.slice LA ln lc) ∧ w'.cell? { block := g5, off := 1 } = some (.int .i64 wn)) ∧ w'.cell? { block := w.heap.size, off := 0 } = some (.slice A1 n1 c1) ∧ w'.cell? { block := w.heap.size, off := 1 } = some (.int .i64 nx) from fun w' hC => ⟨⟨(hC.whole HU10.out).cell 0, (hC.whole HU10.out).cell 1⟩, ⟨(hC.whole HM10.out).cell 0, (hC.whole HM10.out).cell 1⟩, (hC.whole HB10.out).cell 0, (hC.whole HB10.out).cell 1⟩)
            have HG10 := Lib.hid (Grows.refl w10)
            obtain ⟨⟨z0, z1⟩, ⟨z2, z3⟩, z4, z5⟩ := HC.out w10 HG10.out
            dsimp only
            rw [hny, HIO.out]
            clear ho hg ga hgg hny hlens
            cases io with
            | false =>
              go_wp2_with (fail)
              clear hw10 hg9 z0 z1 z2 z3 z4 z5
              go_ret
              exact ⟨rfl, HDZ.out.low⟩
            | true =>
              cases r with
              | false =>
                go_wp2_with (fail)
                clear hw10 hg9 z0 z1 z2 z3 z4 z5
                have hrt := mright_any w10 A1 n1 c1 x (HX.out.grow HDZ.out.low)
                rw [HNX.out, HRX.out] at hrt
                refine hrt.mono ?_
                clear hrt
                rintro e w11 ⟨rfl, hg⟩
                have HG11 := Lib.hid (HG10.out.trans hg)
                have HDZ := Lib.hid (HDZ.out.grow hg)
                clear hg
                obtain ⟨⟨z0, z1⟩, ⟨z2, z3⟩, z4, z5⟩ := HC.out w11 HG11.out
                go_wp2_with (fail)
                clear z0 z1 z2 z3 z4 z5
                have hsm := msame_any w11 A9 k9 c9 (lastO o).1 LA ln lc (lastO o).1 (HY10.out.grow HG11.out) (HLA.out.1.segs.grow HDZ.out.low) (by have h1 := HY10.out.len; have h2 := HLENS.out; omega)
                rw [decide_eq_true rfl] at hsm
                rw [HWN.out] at hsm
                refine hsm.mono ?_
                clear hsm
                rintro e w12 ⟨rfl, hg⟩
                have HG12 := Lib.hid (HG11.out.trans hg)
                have HDZ := Lib.hid (HDZ.out.grow hg)
                clear hg
                obtain ⟨⟨z0, z1⟩, ⟨z2, z3⟩, z4, z5⟩ := HC.out w12 HG12.out
                go_wp2_with (fail)
                clear z0 z1 z2 z3 z4 z5
                go_ret
                exact ⟨rfl, HDZ.out.low⟩
              | true =>
                go_wp2_with (fail)
                clear hw10 hg9 z0 z1 z2 z3 z4 z5
                have hrt := mright_any w10 A1 n1 c1 x (HX.out.grow HDZ.out.low)
                rw [HNX.out, HRX.out] at hrt
                refine hrt.mono ?_
                clear hrt
                rintro e w11 ⟨rfl, hg⟩
                have HG11 := Lib.hid (HG10.out.trans hg)
                have HDZ := Lib.hid (HDZ.out.grow hg)
                clear hg
                obtain ⟨⟨z0, z1⟩, ⟨z2, z3⟩, z4, z5⟩ := HC.out w11 HG11.out
                go_wp2_with (fail)
                clear z0 z1 z2 z3 z4 z5
                have hsm := msame_any w11 A9 k9 c9 (lastO o).1 A1 n1 c1 x (HY10.out.grow HG11.out) (HX.out.segs.grow HDZ.out.low) (by have h1 := HY10.out.len; have h2 := HLENS.out; omega)
                obtain ⟨b2, hb2⟩ : ∃ b : Bool, decide ((lastO o).1 = x) = b := ⟨_, rfl⟩
                rw [hb2, HWN.out, HNX.out] at hsm
                clear hb2
                refine hsm.mono ?_
                clear hsm
                rintro e w12 ⟨rfl, hg⟩
                have HG12 := Lib.hid (HG11.out.trans hg)
                have HDZ := Lib.hid (HDZ.out.grow hg)
                clear hg
                cases b2 with
                | true =>
                  obtain ⟨⟨z0, z1⟩, ⟨z2, z3⟩, z4, z5⟩ := HC.out w12 HG12.out
                  go_wp2_with (fail)
                  clear z0 z1 z2 z3 z4 z5
                  have hsm := msame_any w12 A9 k9 c9 (lastO o).1 LA ln lc (lastO o).1 (HY10.out.grow HG12.out) (HLA.out.1.segs.grow HDZ.out.low) (by have h1 := HY10.out.len; have h2 := HLENS.out; omega)
                  rw [decide_eq_true rfl] at hsm
                  rw [HWN.out] at hsm
                  refine hsm.mono ?_
                  clear hsm
                  rintro e w13 ⟨rfl, hg⟩
                  have HG13 := Lib.hid (HG12.out.trans hg)
                  have HDZ := Lib.hid (HDZ.out.grow hg)
                  clear hg
                  obtain ⟨⟨z0, z1⟩, ⟨z2, z3⟩, z4, z5⟩ := HC.out w13 HG13.out
                  go_wp2_with (fail)
                  clear z0 z1 z2 z3 z4 z5
                  go_ret
                  exact ⟨rfl, HDZ.out.low⟩
                | false =>
                  obtain ⟨⟨z0, z1⟩, ⟨z2, z3⟩, z4, z5⟩ := HC.out w12 HG12.out
                  go_wp2_with (fail)
                  clear z0 z1 z2 z3 z4 z5
                  have hsm := msame_any w12 A9 k9 c9 (lastO o).1 LA ln lc (lastO o).1 (HY10.out.grow HG12.out) (HLA.out.1.segs.grow HDZ.out.low) (by have h1 := HY10.out.len; have h2 := HLENS.out; omega)
                  rw [decide_eq_true rfl] at hsm
                  rw [HWN.out] at hsm
                  refine hsm.mono ?_
                  clear hsm
                  rintro e w13 ⟨rfl, hg⟩
                  have HG13 := Lib.hid (HG12.out.trans hg)
                  have HDZ := Lib.hid (HDZ.out.grow hg)
                  clear hg
                  obtain ⟨⟨z0, z1⟩, ⟨z2, z3⟩, z4, z5⟩ := HC.out w13 HG13.out
                  go_wp2_with (fail)
                  clear z0 z1 z2 z3 z4 z5
                  go_ret
                  exact ⟨rfl, HDZ.out.low⟩
          · have HLD := Lib.hid hld
            have HRX := Lib.hid hrx
            have HLM := Lib.hid (show x.segs.length ≤ 1000000 by have := rightM_len hrx; omega)
            clear hld hrx
            go_wp2_with (fail)
            refine (boot_in dk HD7.out HOK7.out (by have := HK.out; omega) (HBY.out.1.grow HD7.out.low) HBY.out.2.1 (fun ad e hne => .inl (HBY.out.2.2 ad e hne))).mono ?_
            rintro e w8 ⟨rfl, hd8, hst8⟩
            have HD8 := Lib.hid hd8
            have HOK8 := Lib.hid (HOK7.out.boot dk bs)
            have HM8 := Lib.hid (HM7.out.same (hst8.same g5 HM7.out.lt fun h => h.2 (.inr rfl)))
            have HB8 := Lib.hid (HB7.out.same (hst8.same w.heap.size HB7.out.lt fun h => h.2 (.inl rfl)))
            clear hd8 hst8
            go_wp2_with (fail)
            have hlo := mload_any w8 HD8.out HOK8.out (by have := HK.out; omega)
            rw [HLD.out] at hlo
            refine hlo.mono ?_
            clear hlo
            rintro e w9 ⟨A9, k9, c9, rfl, ho, hg⟩
            dsimp only at ho
            have ga := grows_alloc w9 (.cells #[.slice A9 k9 c9, .int .i64 x.next] 24)
            have hgg := Grows.trans hg ga
            have HDZ := Lib.hid (HD8.out.grow hgg)
            have HY10 := Lib.hid (show Ints (w9.alloc (.cells #[.slice A9 k9 c9, .int .i64 x.next] 24)) A9 k9 c9 x.segs from Ints.owned (owned_from (owned_grow ho ga) (Nat.zero_le _)))
            have HU10 := Lib.hid (Whole.made w9 24 #[.slice A9 k9 c9, .int .i64 x.next])
            have HM10 := Lib.hid (hgg.whole HM8.out)
            have HB10 := Lib.hid (hgg.whole HB8.out)
            have hlens := HY10.out.len
            have HLENS := Lib.hid (show k9 ≤ 1000000 by have h1 := HLM.out; omega)
            have hny : x.next = nx := HNX.out
            obtain ⟨w10, hw10⟩ : ∃ z, w9.alloc (.cells #[.slice A9 k9 c9, .int .i64 x.next] 24) = z := ⟨_, rfl⟩
            rw [hw10] at HDZ HY10 HU10 HM10 HB10
            rw [hny] at HU10 hw10
            obtain ⟨g9, hg9⟩ : ∃ z, w9.heap.size = z := ⟨_, rfl⟩
            rw [hg9] at HU10
            have HC := Lib.hid (show ∀ w', Grows w10 w' → (w'.cell? { block := g9, off := 0 } = some (.slice A9 k9 c9) ∧ w'.cell? { block := g9, off := 1 } = some (.int .i64 nx)) ∧ (w'.cell? { block := g5, off := 0 } = some (.slice LA ln lc) ∧ w'.cell? { block := g5, off := 1 } = some (.int .i64 wn)) ∧ w'.cell? { block := w.heap.size, off := 0 } = some (.slice A1 n1 c1) ∧ w'.cell? { block := w.heap.size, off := 1 } = some (.int .i64 nx) from fun w' hC => ⟨⟨(hC.whole HU10.out).cell 0, (hC.whole HU10.out).cell 1⟩, ⟨(hC.whole HM10.out).cell 0, (hC.whole HM10.out).cell 1⟩, (hC.whole HB10.out).cell 0, (hC.whole HB10.out).cell 1⟩)
            have HG10 := Lib.hid (Grows.refl w10)
            obtain ⟨⟨z0, z1⟩, ⟨z2, z3⟩, z4, z5⟩ := HC.out w10 HG10.out
            dsimp only
            rw [hny]
            clear ho hg ga hgg hny hlens
            cases io with
            | true =>
              go_wp2_with (fail)
              clear hw10 hg9 z0 z1 z2 z3 z4 z5
              have hrt := mright_any w10 A1 n1 c1 x (HX.out.grow HDZ.out.low)
              rw [HNX.out, HRX.out] at hrt
              refine hrt.mono ?_
              clear hrt
              rintro e w11 ⟨rfl, hg⟩
              have HG11 := Lib.hid (HG10.out.trans hg)
              have HDZ := Lib.hid (HDZ.out.grow hg)
              clear hg
              obtain ⟨⟨z0, z1⟩, ⟨z2, z3⟩, z4, z5⟩ := HC.out w11 HG11.out
              go_wp2_with (fail)
              clear z0 z1 z2 z3 z4 z5
              have hsm := msame_any w11 A9 k9 c9 x A1 n1 c1 x (HY10.out.grow HG11.out) (HX.out.segs.grow HDZ.out.low) (by have h1 := HY10.out.len; have h2 := HLENS.out; omega)
              rw [decide_eq_true rfl] at hsm
              rw [HNX.out] at hsm
              refine hsm.mono ?_
              clear hsm
              rintro e w12 ⟨rfl, hg⟩
              have HG12 := Lib.hid (HG11.out.trans hg)
              have HDZ := Lib.hid (HDZ.out.grow hg)
              clear hg
              obtain ⟨⟨z0, z1⟩, ⟨z2, z3⟩, z4, z5⟩ := HC.out w12 HG12.out
              go_wp2_with (fail)
              clear z0 z1 z2 z3 z4 z5
              have hsm := msame_any w12 A9 k9 c9 x LA ln lc (lastO o).1 (HY10.out.grow HG12.out) (HLA.out.1.segs.grow HDZ.out.low) (by have h1 := HY10.out.len; have h2 := HLENS.out; omega)
              obtain ⟨b2, hb2⟩ : ∃ b : Bool, decide (x = (lastO o).1) = b := ⟨_, rfl⟩
              rw [hb2, HNX.out, HWN.out] at hsm
              clear hb2
              refine hsm.mono ?_
              clear hsm
              rintro e w13 ⟨rfl, hg⟩
              have HG13 := Lib.hid (HG12.out.trans hg)
              have HDZ := Lib.hid (HDZ.out.grow hg)
              clear hg
              obtain ⟨⟨z0, z1⟩, ⟨z2, z3⟩, z4, z5⟩ := HC.out w13 HG13.out
              cases b2 with
              | true =>
                go_wp2_with (fail)
                go_ret
                exact ⟨rfl, HDZ.out.low⟩
              | false =>
                go_wp2_with (fail)
                go_ret
                exact ⟨rfl, HDZ.out.low⟩
            | false =>
              go_wp2_with (fail)
              clear hw10 hg9 z0 z1 z2 z3 z4 z5
              have hrt := mright_any w10 A1 n1 c1 x (HX.out.grow HDZ.out.low)
              rw [HNX.out, HRX.out] at hrt
              refine hrt.mono ?_
              clear hrt
              rintro e w11 ⟨rfl, hg⟩
              have HG11 := Lib.hid (HG10.out.trans hg)
              have HDZ := Lib.hid (HDZ.out.grow hg)
              clear hg
              obtain ⟨⟨z0, z1⟩, ⟨z2, z3⟩, z4, z5⟩ := HC.out w11 HG11.out
              go_wp2_with (fail)
              clear z0 z1 z2 z3 z4 z5
              have hsm := msame_any w11 A9 k9 c9 x A1 n1 c1 x (HY10.out.grow HG11.out) (HX.out.segs.grow HDZ.out.low) (by have h1 := HY10.out.len; have h2 := HLENS.out; omega)
              rw [decide_eq_true rfl] at hsm
              rw [HNX.out] at hsm
              refine hsm.mono ?_
              clear hsm
              rintro e w12 ⟨rfl, hg⟩
              have HG12 := Lib.hid (HG11.out.trans hg)
              have HDZ := Lib.hid (HDZ.out.grow hg)
              clear hg
              obtain ⟨⟨z0, z1⟩, ⟨z2, z3⟩, z4, z5⟩ := HC.out w12 HG12.out
              go_wp2_with (fail)
              clear z0 z1 z2 z3 z4 z5
              go_ret
              exact ⟨rfl, HDZ.out.low⟩
      | false =>
        go_wp2_with (fail)
        refine (fail_in fk HW.out).mono ?_
        rintro e w6 ⟨rfl, hd6, hst6⟩
        obtain ⟨mq, hmq⟩ : ∃ z, m.setFail fk = z := ⟨_, rfl⟩
        have hsq : SS false (m.setFail fk) o := HSS.out.2.set ⟨rfl, rfl, rfl, rfl, rfl, rfl, rfl⟩ rfl
        have hoq := HSS.out.1.fails fk (by omega)
        rw [hmq] at hd6 hsq hoq
        have HD6 := Lib.hid hd6
        have HSQ := Lib.hid hsq
        have HOK6 := Lib.hid hoq
        have hb6 := HBX.out.same (hst6.same w.heap.size HBX.out.lt fun h => h.2 (.inl rfl))
        have HB6 := Lib.hid hb6
        have HM6 := Lib.hid (HMM.out.same (hst6.same g5 HMM.out.lt fun h => h.2 (.inr rfl)))
        have k0 := hb6.cell 0
        have k1 := hb6.cell 1
        simp only [List.getElem?_toArray, List.getElem?_cons_zero, List.getElem?_cons_succ] at k0 k1
        clear hd6 hst6 hmq hsq hoq hb6
        go_wp2_with (fail)
        clear k0 k1
        obtain ⟨⟨m1, er⟩, hsv⟩ : ∃ q, saveP mq x = q := ⟨_, rfl⟩
        have hsa := msave_any w6 A1 n1 c1 x (HX.out.grow HD6.out.low) HD6.out HOK6.out (by have := HK.out; omega)
        rw [HNX.out, hsv] at hsa
        have hok7 := HOK6.out.save x
        rw [hsv] at hok7
        have HOK7 := Lib.hid hok7
        have HSA := Lib.hid hsa
        have hcase : (er = 0 ∧ rightM x = true ∧ m1.down = false ∧ ∀ l, loadP (m1.boot dk l) = (x, true, 0)) ∨ (er ≠ 0 ∧ Ends m1 o x) := by
          cases hrx : rightM x with
          | false =>
            have e := SS.ill (m := mq) hrx
            rw [hsv] at e
            injection e with e1 e2
            subst e1 e2
            exact .inr ⟨by decide, HSQ.out.ends x⟩
          | true =>
            rcases HSQ.out.save hrx with ⟨h0, h1⟩ | ⟨_, h0, h1⟩
            · rw [hsv] at h0 h1
              dsimp only at h0 h1
              refine .inl ⟨h0, rfl, h1.down, fun l => ?_⟩
              rcases (h1.ends x).boot dk l with e | ⟨_, e⟩
              · exact e
              · exact e
            · rw [hsv] at h0 h1
              exact .inr ⟨h0, h1⟩
        have HCS := Lib.hid hcase
        clear hsv hsa hok7 hcase
        refine HSA.out.mono ?_
        rintro e w7 ⟨rfl, hd7, hst7⟩
        have HD7 := Lib.hid hd7
        have HM7 := Lib.hid (HM6.out.same (hst7.same g5 HM6.out.lt fun h => h.2 (.inr rfl)))
        have HB7 := Lib.hid (HB6.out.same (hst7.same w.heap.size HB6.out.lt fun h => h.2 (.inl rfl)))
        clear hd7 hst7 HSA
        rcases HCS.out with ⟨he0, hrx, hdn, hld⟩ | ⟨he, hen⟩
        · subst he0
          have HLD := Lib.hid (hld bs)
          have HRX := Lib.hid hrx
          have hdw := down_in HD7.out
          rw [hdn] at hdw
          have HLM := Lib.hid (show x.segs.length ≤ 1000000 by have := rightM_len hrx; omega)
          have HDW := Lib.hid hdw
          clear hdw hdn hld hrx
          go_wp2_with (fail)
          refine HDW.out.mono ?_
          rintro e wq ⟨rfl, rfl⟩
          go_wp2_with (fail)
          refine (boot_in dk HD7.out HOK7.out (by have := HK.out; omega) (HBY.out.1.grow HD7.out.low) HBY.out.2.1 (fun ad e hne => .inl (HBY.out.2.2 ad e hne))).mono ?_
          rintro e w8 ⟨rfl, hd8, hst8⟩
          have HD8 := Lib.hid hd8
          have HOK8 := Lib.hid (HOK7.out.boot dk bs)
          have HM8 := Lib.hid (HM7.out.same (hst8.same g5 HM7.out.lt fun h => h.2 (.inr rfl)))
          have HB8 := Lib.hid (HB7.out.same (hst8.same w.heap.size HB7.out.lt fun h => h.2 (.inl rfl)))
          clear hd8 hst8
          go_wp2_with (fail)
          have hlo := mload_any w8 HD8.out HOK8.out (by have := HK.out; omega)
          rw [HLD.out] at hlo
          refine hlo.mono ?_
          clear hlo
          rintro e w9 ⟨A9, k9, c9, rfl, ho, hg⟩
          dsimp only at ho
          have ga := grows_alloc w9 (.cells #[.slice A9 k9 c9, .int .i64 x.next] 24)
          have hgg := Grows.trans hg ga
          have HDZ := Lib.hid (HD8.out.grow hgg)
          have HY10 := Lib.hid (show Ints (w9.alloc (.cells #[.slice A9 k9 c9, .int .i64 x.next] 24)) A9 k9 c9 x.segs from Ints.owned (owned_from (owned_grow ho ga) (Nat.zero_le _)))
          have HU10 := Lib.hid (Whole.made w9 24 #[.slice A9 k9 c9, .int .i64 x.next])
          have HM10 := Lib.hid (hgg.whole HM8.out)
          have HB10 := Lib.hid (hgg.whole HB8.out)
          have hlens := HY10.out.len
          have HLENS := Lib.hid (show k9 ≤ 1000000 by have h1 := HLM.out; omega)
          have hny : x.next = nx := HNX.out
          obtain ⟨w10, hw10⟩ : ∃ z, w9.alloc (.cells #[.slice A9 k9 c9, .int .i64 x.next] 24) = z := ⟨_, rfl⟩
          rw [hw10] at HDZ HY10 HU10 HM10 HB10
          rw [hny] at HU10 hw10
          obtain ⟨g9, hg9⟩ : ∃ z, w9.heap.size = z := ⟨_, rfl⟩
          rw [hg9] at HU10
          have HC := Lib.hid (show ∀ w', Grows w10 w' → (w'.cell? { block := g9, off := 0 } = some (.slice A9 k9 c9) ∧ w'.cell? { block := g9, off := 1 } = some (.int .i64 nx)) ∧ (w'.cell? { block := g5, off := 0 } = some (.slice LA ln lc) ∧ w'.cell? { block := g5, off := 1 } = some (.int .i64 wn)) ∧ w'.cell? { block := w.heap.size, off := 0 } = some (.slice A1 n1 c1) ∧ w'.cell? { block := w.heap.size, off := 1 } = some (.int .i64 nx) from fun w' hC => ⟨⟨(hC.whole HU10.out).cell 0, (hC.whole HU10.out).cell 1⟩, ⟨(hC.whole HM10.out).cell 0, (hC.whole HM10.out).cell 1⟩, (hC.whole HB10.out).cell 0, (hC.whole HB10.out).cell 1⟩)
          have HG10 := Lib.hid (Grows.refl w10)
          obtain ⟨⟨z0, z1⟩, ⟨z2, z3⟩, z4, z5⟩ := HC.out w10 HG10.out
          dsimp only
          rw [hny]
          clear ho hg ga hgg hny hlens
          cases io with
          | true =>
            go_wp2_with (fail)
            clear hw10 hg9 z0 z1 z2 z3 z4 z5
            have hrt := mright_any w10 A1 n1 c1 x (HX.out.grow HDZ.out.low)
            rw [HNX.out, HRX.out] at hrt
            refine hrt.mono ?_
            clear hrt
            rintro e w11 ⟨rfl, hg⟩
            have HG11 := Lib.hid (HG10.out.trans hg)
            have HDZ := Lib.hid (HDZ.out.grow hg)
            clear hg
            obtain ⟨⟨z0, z1⟩, ⟨z2, z3⟩, z4, z5⟩ := HC.out w11 HG11.out
            go_wp2_with (fail)
            clear z0 z1 z2 z3 z4 z5
            have hsm := msame_any w11 A9 k9 c9 x A1 n1 c1 x (HY10.out.grow HG11.out) (HX.out.segs.grow HDZ.out.low) (by have h1 := HY10.out.len; have h2 := HLENS.out; omega)
            rw [decide_eq_true rfl] at hsm
            rw [HNX.out] at hsm
            refine hsm.mono ?_
            clear hsm
            rintro e w12 ⟨rfl, hg⟩
            have HG12 := Lib.hid (HG11.out.trans hg)
            have HDZ := Lib.hid (HDZ.out.grow hg)
            clear hg
            obtain ⟨⟨z0, z1⟩, ⟨z2, z3⟩, z4, z5⟩ := HC.out w12 HG12.out
            go_wp2_with (fail)
            clear z0 z1 z2 z3 z4 z5
            have hsm := msame_any w12 A9 k9 c9 x LA ln lc (lastO o).1 (HY10.out.grow HG12.out) (HLA.out.1.segs.grow HDZ.out.low) (by have h1 := HY10.out.len; have h2 := HLENS.out; omega)
            obtain ⟨b2, hb2⟩ : ∃ b : Bool, decide (x = (lastO o).1) = b := ⟨_, rfl⟩
            rw [hb2, HNX.out, HWN.out] at hsm
            clear hb2
            refine hsm.mono ?_
            clear hsm
            rintro e w13 ⟨rfl, hg⟩
            have HG13 := Lib.hid (HG12.out.trans hg)
            have HDZ := Lib.hid (HDZ.out.grow hg)
            clear hg
            obtain ⟨⟨z0, z1⟩, ⟨z2, z3⟩, z4, z5⟩ := HC.out w13 HG13.out
            cases b2 with
            | true =>
              go_wp2_with (fail)
              go_ret
              exact ⟨rfl, HDZ.out.low⟩
            | false =>
              go_wp2_with (fail)
              go_ret
              exact ⟨rfl, HDZ.out.low⟩
          | false =>
            go_wp2_with (fail)
            clear hw10 hg9 z0 z1 z2 z3 z4 z5
            have hrt := mright_any w10 A1 n1 c1 x (HX.out.grow HDZ.out.low)
            rw [HNX.out, HRX.out] at hrt
            refine hrt.mono ?_
            clear hrt
            rintro e w11 ⟨rfl, hg⟩
            have HG11 := Lib.hid (HG10.out.trans hg)
            have HDZ := Lib.hid (HDZ.out.grow hg)
            clear hg
            obtain ⟨⟨z0, z1⟩, ⟨z2, z3⟩, z4, z5⟩ := HC.out w11 HG11.out
            go_wp2_with (fail)
            clear z0 z1 z2 z3 z4 z5
            have hsm := msame_any w11 A9 k9 c9 x A1 n1 c1 x (HY10.out.grow HG11.out) (HX.out.segs.grow HDZ.out.low) (by have h1 := HY10.out.len; have h2 := HLENS.out; omega)
            rw [decide_eq_true rfl] at hsm
            rw [HNX.out] at hsm
            refine hsm.mono ?_
            clear hsm
            rintro e w12 ⟨rfl, hg⟩
            have HG12 := Lib.hid (HG11.out.trans hg)
            have HDZ := Lib.hid (HDZ.out.grow hg)
            clear hg
            obtain ⟨⟨z0, z1⟩, ⟨z2, z3⟩, z4, z5⟩ := HC.out w12 HG12.out
            go_wp2_with (fail)
            clear z0 z1 z2 z3 z4 z5
            go_ret
            exact ⟨rfl, HDZ.out.low⟩
        · have heb : (er == 0) = false := by rw [beq_eq_false_iff_ne]; exact he
          have hec : (er != 0) = true := by rw [bne_iff_ne]; exact he
          have hen2 := hen.boot dk bs
          clear he hen
          rcases hen2 with hld | ⟨hrx, hld⟩
          · have HLD := Lib.hid (hld.trans (lastO_eq o))
            obtain ⟨r, hrx⟩ : ∃ r, rightM x = r := ⟨_, rfl⟩
            have HRX := Lib.hid hrx
            have HLM := Lib.hid (show (lastO o).1.segs.length ≤ 1000000 by have h1 := HLA.out.1.segs.len; have h2 := HLA.out.2; omega)
            clear hld hrx
            go_wp2_with (fail)
            refine (boot_in dk HD7.out HOK7.out (by have := HK.out; omega) (HBY.out.1.grow HD7.out.low) HBY.out.2.1 (fun ad e hne => .inl (HBY.out.2.2 ad e hne))).mono ?_
            rintro e w8 ⟨rfl, hd8, hst8⟩
            have HD8 := Lib.hid hd8
            have HOK8 := Lib.hid (HOK7.out.boot dk bs)
            have HM8 := Lib.hid (HM7.out.same (hst8.same g5 HM7.out.lt fun h => h.2 (.inr rfl)))
            have HB8 := Lib.hid (HB7.out.same (hst8.same w.heap.size HB7.out.lt fun h => h.2 (.inl rfl)))
            clear hd8 hst8
            go_wp2_with (fail)
            have hlo := mload_any w8 HD8.out HOK8.out (by have := HK.out; omega)
            rw [HLD.out] at hlo
            refine hlo.mono ?_
            clear hlo
            rintro e w9 ⟨A9, k9, c9, rfl, ho, hg⟩
            dsimp only at ho
            have ga := grows_alloc w9 (.cells #[.slice A9 k9 c9, .int .i64 (lastO o).1.next] 24)
            have hgg := Grows.trans hg ga
            have HDZ := Lib.hid (HD8.out.grow hgg)
            have HY10 := Lib.hid (show Ints (w9.alloc (.cells #[.slice A9 k9 c9, .int .i64 (lastO o).1.next] 24)) A9 k9 c9 (lastO o).1.segs from Ints.owned (owned_from (owned_grow ho ga) (Nat.zero_le _)))
            have HU10 := Lib.hid (Whole.made w9 24 #[.slice A9 k9 c9, .int .i64 (lastO o).1.next])
            have HM10 := Lib.hid (hgg.whole HM8.out)
            have HB10 := Lib.hid (hgg.whole HB8.out)
            have hlens := HY10.out.len
            have HLENS := Lib.hid (show k9 ≤ 1000000 by have h1 := HLM.out; omega)
            have hny : (lastO o).1.next = wn := HWN.out
            obtain ⟨w10, hw10⟩ : ∃ z, w9.alloc (.cells #[.slice A9 k9 c9, .int .i64 (lastO o).1.next] 24) = z := ⟨_, rfl⟩
            rw [hw10] at HDZ HY10 HU10 HM10 HB10
            rw [hny] at HU10 hw10
            obtain ⟨g9, hg9⟩ : ∃ z, w9.heap.size = z := ⟨_, rfl⟩
            rw [hg9] at HU10
            have HC := Lib.hid (show ∀ w', Grows w10 w' → (w'.cell? { block := g9, off := 0 } = some (.slice A9 k9 c9) ∧ w'.cell? { block := g9, off := 1 } = some (.int .i64 wn)) ∧ (w'.cell? { block := g5, off := 0 } = some (.slice LA ln lc) ∧ w'.cell? { block := g5, off := 1 } = some (.int .i64 wn)) ∧ w'.cell? { block := w.heap.size, off := 0 } = some (.slice A1 n1 c1) ∧ w'.cell? { block := w.heap.size, off := 1 } = some (.int .i64 nx) from fun w' hC => ⟨⟨(hC.whole HU10.out).cell 0, (hC.whole HU10.out).cell 1⟩, ⟨(hC.whole HM10.out).cell 0, (hC.whole HM10.out).cell 1⟩, (hC.whole HB10.out).cell 0, (hC.whole HB10.out).cell 1⟩)
            have HG10 := Lib.hid (Grows.refl w10)
            obtain ⟨⟨z0, z1⟩, ⟨z2, z3⟩, z4, z5⟩ := HC.out w10 HG10.out
            dsimp only
            rw [hny, HIO.out]
            clear ho hg ga hgg hny hlens
            cases io with
            | false =>
              go_wp2_with (fail)
              clear hw10 hg9 z0 z1 z2 z3 z4 z5
              go_ret
              exact ⟨rfl, HDZ.out.low⟩
            | true =>
              cases r with
              | false =>
                go_wp2_with (fail)
                clear hw10 hg9 z0 z1 z2 z3 z4 z5
                have hrt := mright_any w10 A1 n1 c1 x (HX.out.grow HDZ.out.low)
                rw [HNX.out, HRX.out] at hrt
                refine hrt.mono ?_
                clear hrt
                rintro e w11 ⟨rfl, hg⟩
                have HG11 := Lib.hid (HG10.out.trans hg)
                have HDZ := Lib.hid (HDZ.out.grow hg)
                clear hg
                obtain ⟨⟨z0, z1⟩, ⟨z2, z3⟩, z4, z5⟩ := HC.out w11 HG11.out
                go_wp2_with (fail)
                clear z0 z1 z2 z3 z4 z5
                have hsm := msame_any w11 A9 k9 c9 (lastO o).1 LA ln lc (lastO o).1 (HY10.out.grow HG11.out) (HLA.out.1.segs.grow HDZ.out.low) (by have h1 := HY10.out.len; have h2 := HLENS.out; omega)
                rw [decide_eq_true rfl] at hsm
                rw [HWN.out] at hsm
                refine hsm.mono ?_
                clear hsm
                rintro e w12 ⟨rfl, hg⟩
                have HG12 := Lib.hid (HG11.out.trans hg)
                have HDZ := Lib.hid (HDZ.out.grow hg)
                clear hg
                obtain ⟨⟨z0, z1⟩, ⟨z2, z3⟩, z4, z5⟩ := HC.out w12 HG12.out
                go_wp2_with (fail)
                clear z0 z1 z2 z3 z4 z5
                go_ret
                exact ⟨rfl, HDZ.out.low⟩
              | true =>
                go_wp2_with (fail)
                clear hw10 hg9 z0 z1 z2 z3 z4 z5
                have hrt := mright_any w10 A1 n1 c1 x (HX.out.grow HDZ.out.low)
                rw [HNX.out, HRX.out] at hrt
                refine hrt.mono ?_
                clear hrt
                rintro e w11 ⟨rfl, hg⟩
                have HG11 := Lib.hid (HG10.out.trans hg)
                have HDZ := Lib.hid (HDZ.out.grow hg)
                clear hg
                obtain ⟨⟨z0, z1⟩, ⟨z2, z3⟩, z4, z5⟩ := HC.out w11 HG11.out
                go_wp2_with (fail)
                clear z0 z1 z2 z3 z4 z5
                have hsm := msame_any w11 A9 k9 c9 (lastO o).1 A1 n1 c1 x (HY10.out.grow HG11.out) (HX.out.segs.grow HDZ.out.low) (by have h1 := HY10.out.len; have h2 := HLENS.out; omega)
                obtain ⟨b2, hb2⟩ : ∃ b : Bool, decide ((lastO o).1 = x) = b := ⟨_, rfl⟩
                rw [hb2, HWN.out, HNX.out] at hsm
                clear hb2
                refine hsm.mono ?_
                clear hsm
                rintro e w12 ⟨rfl, hg⟩
                have HG12 := Lib.hid (HG11.out.trans hg)
                have HDZ := Lib.hid (HDZ.out.grow hg)
                clear hg
                cases b2 with
                | true =>
                  obtain ⟨⟨z0, z1⟩, ⟨z2, z3⟩, z4, z5⟩ := HC.out w12 HG12.out
                  go_wp2_with (fail)
                  clear z0 z1 z2 z3 z4 z5
                  have hsm := msame_any w12 A9 k9 c9 (lastO o).1 LA ln lc (lastO o).1 (HY10.out.grow HG12.out) (HLA.out.1.segs.grow HDZ.out.low) (by have h1 := HY10.out.len; have h2 := HLENS.out; omega)
                  rw [decide_eq_true rfl] at hsm
                  rw [HWN.out] at hsm
                  refine hsm.mono ?_
                  clear hsm
                  rintro e w13 ⟨rfl, hg⟩
                  have HG13 := Lib.hid (HG12.out.trans hg)
                  have HDZ := Lib.hid (HDZ.out.grow hg)
                  clear hg
                  obtain ⟨⟨z0, z1⟩, ⟨z2, z3⟩, z4, z5⟩ := HC.out w13 HG13.out
                  go_wp2_with (fail)
                  clear z0 z1 z2 z3 z4 z5
                  go_ret
                  exact ⟨rfl, HDZ.out.low⟩
                | false =>
                  obtain ⟨⟨z0, z1⟩, ⟨z2, z3⟩, z4, z5⟩ := HC.out w12 HG12.out
                  go_wp2_with (fail)
                  clear z0 z1 z2 z3 z4 z5
                  have hsm := msame_any w12 A9 k9 c9 (lastO o).1 LA ln lc (lastO o).1 (HY10.out.grow HG12.out) (HLA.out.1.segs.grow HDZ.out.low) (by have h1 := HY10.out.len; have h2 := HLENS.out; omega)
                  rw [decide_eq_true rfl] at hsm
                  rw [HWN.out] at hsm
                  refine hsm.mono ?_
                  clear hsm
                  rintro e w13 ⟨rfl, hg⟩
                  have HG13 := Lib.hid (HG12.out.trans hg)
                  have HDZ := Lib.hid (HDZ.out.grow hg)
                  clear hg
                  obtain ⟨⟨z0, z1⟩, ⟨z2, z3⟩, z4, z5⟩ := HC.out w13 HG13.out
                  go_wp2_with (fail)
                  clear z0 z1 z2 z3 z4 z5
                  go_ret
                  exact ⟨rfl, HDZ.out.low⟩
          · have HLD := Lib.hid hld
            have HRX := Lib.hid hrx
            have HLM := Lib.hid (show x.segs.length ≤ 1000000 by have := rightM_len hrx; omega)
            clear hld hrx
            go_wp2_with (fail)
            refine (boot_in dk HD7.out HOK7.out (by have := HK.out; omega) (HBY.out.1.grow HD7.out.low) HBY.out.2.1 (fun ad e hne => .inl (HBY.out.2.2 ad e hne))).mono ?_
            rintro e w8 ⟨rfl, hd8, hst8⟩
            have HD8 := Lib.hid hd8
            have HOK8 := Lib.hid (HOK7.out.boot dk bs)
            have HM8 := Lib.hid (HM7.out.same (hst8.same g5 HM7.out.lt fun h => h.2 (.inr rfl)))
            have HB8 := Lib.hid (HB7.out.same (hst8.same w.heap.size HB7.out.lt fun h => h.2 (.inl rfl)))
            clear hd8 hst8
            go_wp2_with (fail)
            have hlo := mload_any w8 HD8.out HOK8.out (by have := HK.out; omega)
            rw [HLD.out] at hlo
            refine hlo.mono ?_
            clear hlo
            rintro e w9 ⟨A9, k9, c9, rfl, ho, hg⟩
            dsimp only at ho
            have ga := grows_alloc w9 (.cells #[.slice A9 k9 c9, .int .i64 x.next] 24)
            have hgg := Grows.trans hg ga
            have HDZ := Lib.hid (HD8.out.grow hgg)
            have HY10 := Lib.hid (show Ints (w9.alloc (.cells #[.slice A9 k9 c9, .int .i64 x.next] 24)) A9 k9 c9 x.segs from Ints.owned (owned_from (owned_grow ho ga) (Nat.zero_le _)))
            have HU10 := Lib.hid (Whole.made w9 24 #[.slice A9 k9 c9, .int .i64 x.next])
            have HM10 := Lib.hid (hgg.whole HM8.out)
            have HB10 := Lib.hid (hgg.whole HB8.out)
            have hlens := HY10.out.len
            have HLENS := Lib.hid (show k9 ≤ 1000000 by have h1 := HLM.out; omega)
            have hny : x.next = nx := HNX.out
            obtain ⟨w10, hw10⟩ : ∃ z, w9.alloc (.cells #[.slice A9 k9 c9, .int .i64 x.next] 24) = z := ⟨_, rfl⟩
            rw [hw10] at HDZ HY10 HU10 HM10 HB10
            rw [hny] at HU10 hw10
            obtain ⟨g9, hg9⟩ : ∃ z, w9.heap.size = z := ⟨_, rfl⟩
            rw [hg9] at HU10
            have HC := Lib.hid (show ∀ w', Grows w10 w' → (w'.cell? { block := g9, off := 0 } = some (.slice A9 k9 c9) ∧ w'.cell? { block := g9, off := 1 } = some (.int .i64 nx)) ∧ (w'.cell? { block := g5, off := 0 } = some (.slice LA ln lc) ∧ w'.cell? { block := g5, off := 1 } = some (.int .i64 wn)) ∧ w'.cell? { block := w.heap.size, off := 0 } = some (.slice A1 n1 c1) ∧ w'.cell? { block := w.heap.size, off := 1 } = some (.int .i64 nx) from fun w' hC => ⟨⟨(hC.whole HU10.out).cell 0, (hC.whole HU10.out).cell 1⟩, ⟨(hC.whole HM10.out).cell 0, (hC.whole HM10.out).cell 1⟩, (hC.whole HB10.out).cell 0, (hC.whole HB10.out).cell 1⟩)
            have HG10 := Lib.hid (Grows.refl w10)
            obtain ⟨⟨z0, z1⟩, ⟨z2, z3⟩, z4, z5⟩ := HC.out w10 HG10.out
            dsimp only
            rw [hny]
            clear ho hg ga hgg hny hlens
            cases io with
            | true =>
              go_wp2_with (fail)
              clear hw10 hg9 z0 z1 z2 z3 z4 z5
              have hrt := mright_any w10 A1 n1 c1 x (HX.out.grow HDZ.out.low)
              rw [HNX.out, HRX.out] at hrt
              refine hrt.mono ?_
              clear hrt
              rintro e w11 ⟨rfl, hg⟩
              have HG11 := Lib.hid (HG10.out.trans hg)
              have HDZ := Lib.hid (HDZ.out.grow hg)
              clear hg
              obtain ⟨⟨z0, z1⟩, ⟨z2, z3⟩, z4, z5⟩ := HC.out w11 HG11.out
              go_wp2_with (fail)
              clear z0 z1 z2 z3 z4 z5
              have hsm := msame_any w11 A9 k9 c9 x A1 n1 c1 x (HY10.out.grow HG11.out) (HX.out.segs.grow HDZ.out.low) (by have h1 := HY10.out.len; have h2 := HLENS.out; omega)
              rw [decide_eq_true rfl] at hsm
              rw [HNX.out] at hsm
              refine hsm.mono ?_
              clear hsm
              rintro e w12 ⟨rfl, hg⟩
              have HG12 := Lib.hid (HG11.out.trans hg)
              have HDZ := Lib.hid (HDZ.out.grow hg)
              clear hg
              obtain ⟨⟨z0, z1⟩, ⟨z2, z3⟩, z4, z5⟩ := HC.out w12 HG12.out
              go_wp2_with (fail)
              clear z0 z1 z2 z3 z4 z5
              have hsm := msame_any w12 A9 k9 c9 x LA ln lc (lastO o).1 (HY10.out.grow HG12.out) (HLA.out.1.segs.grow HDZ.out.low) (by have h1 := HY10.out.len; have h2 := HLENS.out; omega)
              obtain ⟨b2, hb2⟩ : ∃ b : Bool, decide (x = (lastO o).1) = b := ⟨_, rfl⟩
              rw [hb2, HNX.out, HWN.out] at hsm
              clear hb2
              refine hsm.mono ?_
              clear hsm
              rintro e w13 ⟨rfl, hg⟩
              have HG13 := Lib.hid (HG12.out.trans hg)
              have HDZ := Lib.hid (HDZ.out.grow hg)
              clear hg
              obtain ⟨⟨z0, z1⟩, ⟨z2, z3⟩, z4, z5⟩ := HC.out w13 HG13.out
              cases b2 with
              | true =>
                go_wp2_with (fail)
                go_ret
                exact ⟨rfl, HDZ.out.low⟩
              | false =>
                go_wp2_with (fail)
                go_ret
                exact ⟨rfl, HDZ.out.low⟩
            | false =>
              go_wp2_with (fail)
              clear hw10 hg9 z0 z1 z2 z3 z4 z5
              have hrt := mright_any w10 A1 n1 c1 x (HX.out.grow HDZ.out.low)
              rw [HNX.out, HRX.out] at hrt
              refine hrt.mono ?_
              clear hrt
              rintro e w11 ⟨rfl, hg⟩
              have HG11 := Lib.hid (HG10.out.trans hg)
              have HDZ := Lib.hid (HDZ.out.grow hg)
              clear hg
              obtain ⟨⟨z0, z1⟩, ⟨z2, z3⟩, z4, z5⟩ := HC.out w11 HG11.out
              go_wp2_with (fail)
              clear z0 z1 z2 z3 z4 z5
              have hsm := msame_any w11 A9 k9 c9 x A1 n1 c1 x (HY10.out.grow HG11.out) (HX.out.segs.grow HDZ.out.low) (by have h1 := HY10.out.len; have h2 := HLENS.out; omega)
              rw [decide_eq_true rfl] at hsm
              rw [HNX.out] at hsm
              refine hsm.mono ?_
              clear hsm
              rintro e w12 ⟨rfl, hg⟩
              have HG12 := Lib.hid (HG11.out.trans hg)
              have HDZ := Lib.hid (HDZ.out.grow hg)
              clear hg
              obtain ⟨⟨z0, z1⟩, ⟨z2, z3⟩, z4, z5⟩ := HC.out w12 HG12.out
              go_wp2_with (fail)
              clear z0 z1 z2 z3 z4 z5
              go_ret
              exact ⟨rfl, HDZ.out.low⟩

set_option maxRecDepth 100000 in
theorem manSwaps_lifted (os : Os) (started : os.Started) (H : Type) (enc : TypeId × Value → H) :
    ReturnsInHanded {} Try.checked os 5 .any (Rows.manSwapsSpec.pre6 enc Try.prog Try.f5 Rows.manSwapsRow.domain false) (Rows.manSwapsSpec.post enc Try.prog Try.f5 false true false false) := by
  refine lift_law (C := Try.checked) H enc own started (by kernel_rfl) Try.func5
    (ChangeSpec.witness6 (enc := enc) (C := Try.checked) false ⟨#[], #[.slice none 0 0, .agg #[.slice none 0 0, .int .i64 0], .int .u8 0, .bool false, .int .u8 0, .slice none 0 0], []⟩ 16 (by kernel_rfl) (by kernel_rfl) (by kernel_rfl) (by kernel_rfl))
    laidOut (of_readable (by kernel_rfl)) rfl Try.underlying4 rfl (fun ds hd => ?_) (fun W base args ds p hval hA hsz => ?_)
  · match ds, hd with
    | [d1, d2, d3, d4, d5, d6], _ => rfl
  · rw [Try.params5] at hA hval hsz
    obtain ⟨v0, vs0, d0, ds0, p0, q0, hargs, rfl, rfl, h0, r0⟩ := trodAll_cons hA
    obtain ⟨v1, vs1, d1, ds1, p1, q1, rfl, rfl, rfl, h1, r1⟩ := trodAll_cons r0
    obtain ⟨v2, vs2, d2, ds2, p2, q2, rfl, rfl, rfl, h2, r2⟩ := trodAll_cons r1
    obtain ⟨v3, vs3, d3, ds3, p3, q3, rfl, rfl, rfl, h3, r3⟩ := trodAll_cons r2
    obtain ⟨v4, vs4, d4, ds4, p4, q4, rfl, rfl, rfl, h4, r4⟩ := trodAll_cons r3
    obtain ⟨v5, vs5, d5, ds5, p5, q5, rfl, rfl, rfl, h5, r5⟩ := trodAll_cons r4
    obtain ⟨rfl, rfl, rfl⟩ := trodAll_nil r5
    obtain rfl : args = #[v0, v1, v2, v3, v4, v5] := by cases args; simp_all
    obtain ⟨A0, n0, c0, xs0, rfl, hx0⟩ := open_mans (hval 0 33 v0 rfl rfl) h0
    obtain ⟨A1, n1, c1, xs1, rfl, hx1⟩ := open_man (hval 1 24 v1 rfl rfl) h1
    obtain ⟨a2, rfl, _, _, w2⟩ := open_int Try.underlying5 (hval 2 5 v2 rfl rfl) h2
    have b2 := bounds_u8 w2
    obtain ⟨a3, rfl, _, _⟩ := open_bool Try.underlying4 (hval 3 4 v3 rfl rfl) h3
    obtain ⟨a4, rfl, _, _, w4⟩ := open_int Try.underlying5 (hval 4 5 v4 rfl rfl) h4
    have b4 := bounds_u8 w4
    obtain ⟨A5, n5, c5, xs5, rfl, hx5, hb5⟩ := open_i64b (hval 5 22 v5 rfl rfl) h5
    exact manSwaps_law W A0 n0 c0 xs0 hx0 A1 n1 c1 xs1 hx1 a2 (by omega) a3 a4 (by omega) A5 n5 c5 xs5 hx5 hb5

theorem manSwaps_over : Rows.manSwapsRow.holds Try.pinned (OpenSpec.ofChange Rows.manSwapsSpec) :=
  OpenClaim.holds_of_wide 5 Try.f5 rfl rfl rfl rfl rfl rfl rfl ⟨rfl, rfl, rfl, rfl, rfl⟩ rfl rfl rfl rfl rfl (by kernel_rfl) Try.func5 (by kernel_rfl)
    (of_decide_eq_true (by kernel_rfl)) (by unfold Func.isWrapper; first | (rw [if_pos (by decide +kernel)]; kernel_rfl) | (rw [if_neg (by decide +kernel)]; exact ⟨rfl, rfl⟩))
    (fun os started H enc _ => manSwaps_lifted os started H enc)
theorem manSwaps_holds : Rows.ManSwapsSaid := manSwaps_over
end Go.Proofs.Ytdkpbphgaenlnaa
