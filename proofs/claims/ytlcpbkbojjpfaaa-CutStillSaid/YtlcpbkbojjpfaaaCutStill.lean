/-
  Statement CutStill: what was written stays so, whatever becomes of what was handed in, and of pieces that came out. All bytes, no condition.
-/
import Derived.Test.YtlcpbkbojjpfaaaCutStillBits
import Derived.ProofKit
import Derived.ChangeOld
namespace Go.Proofs.Ytlcpbkbojjpfaaa
open Go.ChangeShapes Go.WideShapes Go.ChangeAt Go.RowKit
set_option linter.unusedSimpArgs false
set_option linter.unusedVariables false

theorem len_lim {a b : Nat} (h : ¬ (9000 : Int) < ((a + b : Nat) : Int)) : a + b ≤ 9000 := by omega
theorem no_long {a b : Nat} (h : a + b ≤ 100000) : ¬ 9223372036854775807 < a + b := by omega
theorem sm_i {i n : Nat} (h : i < n) (hn : n ≤ 100000) : i + 1 ≤ 1000000000000000 := by omega
set_option maxRecDepth 100000 in
set_option maxHeartbeats 8000000 in
theorem cutStill_law (w : World) (A : Option Addr) (n c : Nat) (aa : List UInt8) (hx : Came w A n c aa) (B : Option Addr) (m d : Nat) (bs : List UInt8) (hy : Came w B m d bs) :
    Calls Try.prog 8 #[.slice A n c, .slice B m d] w fun e w' => e = .returned (.bool true) ∧ Below w.heap.size w w' := by
  have HX := Lib.hid hx.sl
  have HY := Lib.hid hy.sl
  have hnc := hx.cap
  have hcr := hx.reach
  have hmd := hy.cap
  have hdr := hy.reach
  clear hx hy
  go_enter Try.func8, Try.ntmps8
  go_wp2_with (fail)
  refine (cutHead_any w).mono ?_
  rintro e w0 ⟨rfl, hb0⟩
  have HG0 := Lib.hid (show Grows w w0 from hb0)
  clear hb0
  go_wp2_with (fail)
  refine (make_cut 3 w0 (by omega)).mono ?_
  rintro e w1 ⟨rfl, hc1, hg1⟩
  have H1 := Lib.hid (And.intro hc1 hg1)
  clear hc1 hg1
  obtain ⟨ks, ks2⟩ := fit_sumB n m (n + m) rfl (by omega)
  by_cases hbig : (9000 : Int) < ((n + m : Nat) : Int)
  · go_wp2_with (fail)
    go_ret
    exact ⟨rfl, Grows.trans HG0.out H1.out.2⟩
  have hsm := len_lim hbig
  have HSM := Lib.hid hsm
  have hbig' : ¬ (9000 : Int) < (n : Int) + (m : Int) := by omega
  have hww1 : Grows w w1 := Grows.trans HG0.out H1.out.2
  have hla := HX.out.len
  have hlb := HY.out.len
  have hsa := run_string (HX.out.grow hww1)
  have hsb := run_string (HY.out.grow hww1)
  have hadd := bytes_add aa bs
  obtain ⟨T, hT⟩ : ∃ T, aa ++ bs = T := ⟨_, rfl⟩
  rw [hT] at hadd
  have HT := Lib.hid hT
  have HLA := Lib.hid (And.intro hla hlb)
  have hno : ¬ 9223372036854775807 < aa.length + bs.length := no_long (by omega)
  have hno2 : ¬ 9223372036854775807 < n + m := no_long (by omega)
  have HWW1 := Lib.hid hww1
  clear hT hla hlb hbig hsm hww1
  have HOE := Lib.hid (World.ownsRow_lit (size := 1) (e := 5) (base := w0.heap.size) w1 #[] 0 H1.out.2.size (Nat.zero_le _) rfl)
  have HSX := Lib.hid (HX.out.grow (Grows.trans HWW1.out (grows_alloc w1 (.cells #[] 5))))
  go_wp2_with (at_builtin
               refine list_app_own rfl (.tmp 38) (.tmp 39) rfl (base := w0.heap.size) (xs := []) rfl HOE.out (A := A) (m := n) (c := c) rfl HSX.out n (Nat.zero_add n) (by omega) (Nat.le_trans H1.out.2.size (grows_alloc _ _).size) ?_
               intro XA cx w2 ho2 hg2 hv2
               have HO2 := Lib.hid ho2
               have HGR2 := Lib.hid hg2
               clear ho2 hg2 hv2)
  have hga := grows_alloc w1 (.cells #[] 5)
  have hc2 := (H1.out.1.grow hga).aside HOE.out (Apart.nil _).symm HGR2.out
  have hb2 : Below w0.heap.size w0 w2 := Below.trans H1.out.2 (Below.trans (Below.mono hga H1.out.2.size) ((Below.refl _ _).grown HGR2.out (Nat.le_trans H1.out.2.size hga.size) fun k hk => (owned_lt HOE.out hk).1))
  refine (write_cut w0.heap.size w0.heap.size 3 0 _ [] XA n cx aa w2 hc2 (Sl.owned HO2.out) (fun _ ad e => by
    subst e
    exact ⟨fun e => owned_type HO2.out hc2.cells (by decide) (by rw [← e]; rfl), by simp [Value.ownBlock]⟩) (by omega) (by omega) (by omega) hb2.size).mono ?_
  rintro e w3 ⟨A3, c3, xs, v3, rfl, ho3, hl3, hp3, hc3, hsp3, hv3⟩
  rw [List.nil_append] at hp3 hc3
  obtain ⟨M, hM⟩ : ∃ M, xs.length = M := ⟨_, rfl⟩
  have hx3 := owned_same (w' := w3) HO2.out fun k hk => hsp3.same k (owned_lt HO2.out hk).2 (by
    rintro (e | e)
    · exact owned_type HO2.out hc2.cells (by decide) (by rw [hk, e])
    · simp [Value.ownBlock] at e)
  have hxb : ∀ k, (Value.slice XA n cx).ownBlock = some k → w0.heap.size ≤ k ∧ k < w2.heap.size := fun k hk => owned_lt HO2.out hk
  have hvl : ∀ k, v3.ownBlock = some k → w2.heap.size ≤ k ∧ ∀ x ∈ xs, (slV x.1).ownBlock ≠ some k := fun k hk => by
    rcases hv3 k hk with ⟨_, h⟩ | h
    · simp [Value.ownBlock] at h
    · exact h
  have hpb : ∀ (j : Nat) (y : Xp) (k : Nat), xs[j]? = some y → (slV y.1).ownBlock = some k → w2.heap.size ≤ k := fun j y k hy hk => by
    rcases hl3.blks y (List.mem_of_getElem? hy) k hk with h | h
    · simp [Value.ownBlock] at h
    · exact h
  have hfl : ((xs.map (·.2))).flatten.length ≤ n := by
    have h1 := congrArg List.length (pieces_all (P := 3) (T := aa))
    rw [List.length_append, HLA.out.1] at h1
    rw [hp3]
    omega
  have hb3 : Below w0.heap.size w0 w3 := Below.trans hb2 (hsp3.below hb2.size (fun k hk e => by
    rcases e with e | e
    · omega
    · simp [Value.ownBlock] at e))
  have hMn : M ≤ n := by
    have h1 := congrArg List.length hp3
    rw [List.length_map, hM] at h1
    have h2 := pieces_few 3 aa
    rw [HLA.out.1] at h2
    omega
  have HL3 := Lib.hid (And.intro hl3 (And.intro ho3 hM))
  have HP3 := Lib.hid (And.intro hp3 hfl)
  have H3 := Lib.hid (And.intro hc3 (And.intro hx3 (And.intro hxb (And.intro hvl (And.intro hpb (And.intro hb3 hb2.size))))))
  rw [hM]
  clear hga hc2 hb2 ho3 hl3 hp3 hc3 hsp3 hv3 hM hx3 hxb hvl hpb hfl hb3 hsa hsb hadd hno hno2
  go_wp2_with (fail)
  go_loopw [10, 11] (fun vs vi wr => ∃ (i : Nat) (S : List UInt8), i ≤ M ∧ vs = .string ⟨S.toArray⟩ ∧ vi = .int .i64 (i : Nat) ∧ Hid (S = ((xs.take i).map (·.2)).flatten) ∧ Hid (Spares (ahead xs i) w3 wr)) (fun _ i _ => M - (intOf i).toNat)
  case atStart => exact ⟨0, [], Nat.zero_le _, rfl, rfl, Lib.hid rfl, Lib.hid (Spares.refl _ _)⟩
  case round =>
    obtain ⟨i, S, hi, rfl, rfl, HS, HSP⟩ := hrel
    by_cases hlt : i < M
    · have hixs : i < xs.length := by rw [HL3.out.2.2]; exact hlt
      obtain ⟨ad, y, rfl, hy, hcell, hP, hrow⟩ := piece_at HL3.out.1 HL3.out.2.1 HSP.out hixs
      obtain ⟨⟨YA, ym, yc⟩, z⟩ := y
      dsimp only [slV] at hcell hP hrow hy
      subst hP
      have hstr := run_string (Sl.owned hrow)
      have hzl := own_len hrow
      have hSl : S.length + z.length ≤ 100000 := by
        have h1 := flat_le xs i
        have h2 := HP3.out.2
        have h3 := HSM.out
        rw [HS.out]
        omega
      have hno : ¬ 9223372036854775807 < S.length + z.length := no_long hSl
      have hno3 : ¬ 9223372036854775807 < S.length + 3 := by rw [← hzl]; exact hno
      have hadd := bytes_add S z
      obtain ⟨S1, hS1⟩ : ∃ S1, S ++ z = S1 := ⟨_, rfl⟩
      rw [hS1] at hadd
      have HS1 := Lib.hid (show S1 = ((xs.take (i + 1)).map (·.2)).flatten by rw [flat_more hy, ← HS.out, hS1])
      have HY1 := Lib.hid (And.intro hy hrow)
      have i0 : (0 : Int) ≤ (i : Int) := by omega
      have i1 : (i : Int) < (M : Int) := by omega
      have ii : IntKind.i64.wrap ((i : Int) + 1) = (i : Int) + 1 := (fit_sumB i 1 (i + 1) rfl (sm_i hlt (by omega))).1
      clear hy hrow hzl hSl hS1 hixs
      go_wp2_with (fail)
      go_loopw [12] (fun vk wr => ∃ (k : Nat) (us : List Value), k ≤ 3 ∧ vk = .int .i64 (k : Nat) ∧ Hid (Spares (ahead xs (i + 1)) w3 wr) ∧ Hid (wr.ownsRow w0.heap.size 5 1 (.slice YA 3 yc) 3 us)) (fun k _ => 3 - (intOf k).toNat)
      case atStart => exact ⟨0, _, by omega, rfl, Lib.hid (HSP.out.wider fun k _ h => ahead_more h), Lib.hid HY1.out.2⟩
      case round =>
        obtain ⟨k, us, hk, rfl, HSK, HRK⟩ := hrel
        obtain ⟨ad', e', hcell'⟩ := table_at HL3.out.1 HL3.out.2.1 HSK.out HY1.out.1
        injection e' with e'
        subst e'
        dsimp only [slV] at hcell'
        by_cases hk3 : k < 3
        · obtain ⟨ya, x, rfl, hux, hcx, hfx, hob, hyb, hst⟩ := own_at HRK.out hk3
          have k0 : (0 : Int) ≤ (k : Int) := by omega
          have k1 : (k : Int) < 3 := by omega
          have kk : IntKind.i64.wrap ((k : Int) + 1) = (k : Int) + 1 := (fit_sumB k 1 (k + 1) rfl (sm_i hk3 (by omega))).1
          have HST := Lib.hid (And.intro (hst (.int .u8 0)) (HSK.out.setCell (p := ya.add k) ⟨i, _, Nat.lt_succ_self i, HY1.out.1, by rw [hyb]; exact hob⟩ (.int .u8 0)))
          clear hst hux hob hyb hno hno3 hadd hstr hcell
          go_wp2_with (fail)
          go_roundw
          case rel => exact ⟨k + 1, _, by omega, by go_num, Lib.hid HST.out.2, Lib.hid HST.out.1⟩
          case measure => simp [intOf]; omega
        · obtain rfl : k = 3 := by omega
          clear hno hno3 hadd hstr hcell
          go_wp2_with (fail)
          go_roundw
          case rel => exact ⟨i + 1, S1, by omega, rfl, by go_num, HS1, HSK⟩
          case measure => simp [intOf]; omega
    · obtain rfl : i = M := by omega
      have hS0 : S = (piecesB 3 aa).flatten := by
        rw [HS.out, List.take_of_length_le (by rw [HL3.out.2.2]; exact Nat.le_refl _), HP3.out.1]
      have hall := pieces_all (P := 3) (T := aa)
      rw [← hS0] at hall
      have HS0 := Lib.hid hall
      have hahead : ∀ k, ahead xs i k → w2.heap.size ≤ k ∧ (∃ y ∈ xs, (slV y.1).ownBlock = some k) := fun k hk => by
        obtain ⟨j, y, _, hy, e⟩ := hk
        exact ⟨H3.out.2.2.2.2.1 j y k hy e, y, List.mem_of_getElem? hy, e⟩
      have hx4 := owned_same (w' := wr) H3.out.2.1 fun k hk => HSP.out.same k (owned_lt H3.out.2.1 hk).2 fun e => by
        have := (hahead k e).1
        have := (H3.out.2.2.1 k hk).2
        omega
      have hc4 : CutHas wr w0.heap.size w0.heap.size 3 (0 + n) v3 (restB 3 aa) := H3.out.1.keep fun k hk => by
        refine HSP.out.same k ?_ fun e => ?_
        · rcases hk with rfl | hk
          · exact H3.out.1.cells.lt
          · exact (owned_lt H3.out.1.left hk).2
        · obtain ⟨h1, y, hy, e⟩ := hahead k e
          rcases hk with rfl | hk
          · exact owned_type (HL3.out.1.rows y hy).2 H3.out.1.cells (by decide) e
          · exact (H3.out.2.2.2.1 k hk).2 y hy e
      have hb4 : Below w0.heap.size w0 wr := Below.trans H3.out.2.2.2.2.2.1 (HSP.out.below H3.out.2.2.2.2.2.1.size fun k hk e => by
        have := (hahead k e).1
        have := H3.out.2.2.2.2.2.2
        omega)
      have HX4 := Lib.hid hx4
      have HC4 := Lib.hid (And.intro hc4 hb4)
      obtain ⟨w4, hw4⟩ : ∃ w4, w4 = wr := ⟨_, rfl⟩
      subst hw4
      have hn1 : n ≤ 9000 := by have := HSM.out; omega
      clear hS0 hall hahead hx4 hc4 hb4
      go_wp2_with (fail)
      go_loopw [13] (fun vj wq => ∃ (j : Nat) (us : List Value), j ≤ n ∧ vj = .int .i64 (j : Nat) ∧ Hid (wq.ownsRow w0.heap.size 5 1 (.slice XA n cx) n us) ∧ Hid (∀ u ∈ us, ∃ z : Int, u = .int .u8 z) ∧ Hid (Spares (fun k => (Value.slice XA n cx).ownBlock = some k) w4 wq)) (fun j _ => n - (intOf j).toNat)
      case atStart => exact ⟨0, _, Nat.zero_le _, rfl, HX4, Lib.hid (fun u hu => by
        obtain ⟨b, _, rfl⟩ := List.mem_map.1 hu
        exact ⟨_, rfl⟩), Lib.hid (Spares.refl _ _)⟩
      case round =>
        obtain ⟨j, us, hj, rfl, HRJ, HU, HSJ⟩ := hrel
        by_cases hjn : j < n
        · obtain ⟨xa, x, rfl, hux, hcx, hfx, hob, hyb, hst⟩ := own_at HRJ.out hjn
          obtain ⟨z, rfl⟩ := HU.out x (List.mem_of_getElem? hux)
          have j0 : (0 : Int) ≤ (j : Int) := by omega
          have j1 : (j : Int) < (n : Int) := by omega
          have kk : IntKind.i64.wrap ((j : Int) + 1) = (j : Int) + 1 := (fit_sumB j 1 (j + 1) rfl (sm_i hjn (by omega))).1
          have HST := Lib.hid (show ∀ u, (wr.setCell (xa.add j) u).ownsRow w0.heap.size 5 1 (.slice (some xa) n cx) n (us.set j u) ∧ Spares (fun k => (Value.slice (some xa) n cx).ownBlock = some k) w4 (wr.setCell (xa.add j) u) from fun u => ⟨hst u, HSJ.out.setCell (p := xa.add j) (by rw [hyb]; exact hob) u⟩)
          clear hst hux hob hyb
          go_wp2_with (fail)
          go_roundw
          case rel => exact ⟨j + 1, _, by omega, by go_num, Lib.hid (HST.out _).1, Lib.hid (fun u hu => (List.mem_or_eq_of_mem_set hu).elim (fun h => HU.out u h) (fun h => ⟨_, h⟩)), Lib.hid (HST.out _).2⟩
          case measure => simp [intOf]; omega
        · obtain rfl : j = n := by omega
          have hc5 : CutHas wr w0.heap.size w0.heap.size 3 (0 + j) v3 (restB 3 aa) := HC4.out.1.keep fun k hk => by
            refine HSJ.out.same k ?_ fun e => ?_
            · rcases hk with rfl | hk
              · exact HC4.out.1.cells.lt
              · exact (owned_lt HC4.out.1.left hk).2
            · rcases hk with rfl | hk
              · exact owned_type HX4.out HC4.out.1.cells (by decide) e
              · have h1 := (H3.out.2.2.2.1 k hk).1
                have h2 := (H3.out.2.2.1 k e).2
                omega
          have hb5 : Below w0.heap.size w0 wr := Below.trans HC4.out.2 (HSJ.out.below HC4.out.2.size fun k hk e => by have := (H3.out.2.2.1 k e).1; omega)
          have H5 := Lib.hid (And.intro hc5 hb5)
          clear hc5 hb5
          go_wp2_with (fail)
          refine (write_low w0.heap.size w0.heap.size 3 (0 + j) v3 (restB 3 aa) B m d bs wr H5.out.1 (Nat.le_refl _) (HY.out.grow (Grows.trans HG0.out H5.out.2)) (fun h0 x e => by
            obtain ⟨x', e', hbx, _⟩ := HY.out.bytes.spot (k := 0) h0
            rw [e] at e'
            injection e' with e'
            subst e'
            have := HG0.out.size
            exact ⟨by omega, fun e2 => by have := (owned_lt H5.out.1.left e2).1; omega⟩) (by omega) (by have := HSM.out; omega) (by omega) H5.out.2.size).mono ?_
          rintro e w6 ⟨A6, m6, c6, v6, rfl, hl6, hc6, hb6, _, _⟩
          have hls := hl6 w6 (Keeps.grows (Grows.refl _))
          have hall6 := pieces_all (P := 3) (T := restB 3 aa ++ bs)
          have hm6 := hls.len
          have hT2 : S ++ ((piecesB 3 (restB 3 aa ++ bs)).flatten ++ restB 3 (restB 3 aa ++ bs)) = T := by rw [hall6, ← List.append_assoc, HS0.out, HT.out]
          have hTl : T.length ≤ 9000 := by
            have h1 := congrArg List.length HT.out
            have h2 := HSM.out
            rw [List.length_append, HLA.out.1, HLA.out.2] at h1
            omega
          have hm6l : m6 ≤ 18000 := by
            have h1 := pieces_few 3 (restB 3 aa ++ bs)
            have h2 := rest_short (P := 3) (T := aa) (by omega)
            have h3 := HSM.out
            rw [hm6, List.length_append, HLA.out.2] at h1
            omega
          generalize piecesB 3 (restB 3 aa ++ bs) = ps at *
          generalize restB 3 (restB 3 aa ++ bs) = L6 at *
          have H6 := Lib.hid (And.intro hls (And.intro hc6 (And.intro (Below.trans H5.out.2 hb6) (And.intro hm6 (And.intro hT2 hTl)))))
          have hcap := hls.cap
          have hfl6 : ps.flatten.length ≤ 9000 ∧ S.length + ps.flatten.length + L6.length ≤ 9000 := by
            have h1 := congrArg List.length hT2
            rw [List.length_append, List.length_append] at h1
            omega
          have HFL := Lib.hid hfl6
          clear hls hc6 hb6 hl6 hall6 hm6 hT2 hTl hfl6
          go_wp2_with (fail)
          go_loopw [10, 15] (fun vs vi wr => ∃ (i : Nat) (S1 : List UInt8), i ≤ m6 ∧ vs = .string ⟨S1.toArray⟩ ∧ vi = .int .i64 (i : Nat) ∧ Hid (S1 = S ++ (ps.take i).flatten) ∧ w6 = wr) (fun _ i _ => m6 - (intOf i).toNat)
          case atStart => exact ⟨0, S, Nat.zero_le _, rfl, rfl, Lib.hid (by simp), rfl⟩
          case round =>
            obtain ⟨i, S1, hi, rfl, rfl, HS1, rfl⟩ := hrel
            by_cases hlt : i < m6
            · obtain ⟨ad, BX, mx, dx, rfl, hblk, hcx, hsx⟩ := H6.out.1.get hlt
              have hips : i < ps.length := by rw [H6.out.2.2.2.1]; exact hlt
              have hone := take_flat_oneS hips
              obtain ⟨z, hz⟩ : ∃ z, ps.getD i [] = z := ⟨_, rfl⟩
              rw [hz] at hsx hone
              have hstr := run_string hsx
              have hSl : S1.length + z.length ≤ 100000 := by
                have h1 := take_flat_leS ps (i + 1)
                have h2 := HFL.out.2
                rw [hone, List.length_append] at h1
                rw [HS1.out, List.length_append]
                omega
              have hno : ¬ 9223372036854775807 < S1.length + z.length := no_long hSl
              have hno3 : ¬ 9223372036854775807 < S1.length + mx := by rw [← hsx.len]; exact hno
              have hadd := bytes_add S1 z
              obtain ⟨S2, hS2⟩ : ∃ S2, S1 ++ z = S2 := ⟨_, rfl⟩
              rw [hS2] at hadd
              have HS2 := Lib.hid (show S2 = S ++ (ps.take (i + 1)).flatten by rw [hone, ← List.append_assoc, ← HS1.out, hS2])
              have i0 : (0 : Int) ≤ (i : Int) := by omega
              have i1 : (i : Int) < (m6 : Int) := by omega
              have ii : IntKind.i64.wrap ((i : Int) + 1) = (i : Int) + 1 := (fit_sumB i 1 (i + 1) rfl (sm_i hlt (by omega))).1
              clear hz hsx hone hSl hS2 hips hblk
              go_wp2_with (fail)
              go_roundw
              case rel => exact ⟨i + 1, S2, by omega, rfl, by go_num, HS2, trivial⟩
              case measure => simp [intOf]; omega
            · obtain rfl : i = m6 := by omega
              have hS2 : S1 ++ L6 = T := by
                rw [HS1.out, List.take_of_length_le (by rw [H6.out.2.2.2.1]; exact Nat.le_refl _), List.append_assoc]
                exact H6.out.2.2.2.2.1
              obtain ⟨X6, d6, rfl, _⟩ := H6.out.2.1.slice
              have hSl : S1.length + L6.length ≤ 100000 := by
                have h1 := congrArg List.length hS2
                have h2 := H6.out.2.2.2.2.2
                rw [List.length_append] at h1
                omega
              have hno : ¬ 9223372036854775807 < S1.length + L6.length := no_long hSl
              have hadd := bytes_add S1 L6
              rw [hS2] at hadd
              have HSS := Lib.hid (And.intro hno hadd)
              clear hno hadd hSl hS2
              go_wp2_with (fail)
              refine (rest_cut w6 H6.out.2.2.1.size H6.out.2.1).mono ?_
              rintro e w7 ⟨rfl, ho7, hc7, hs7⟩
              have hstr := run_string (Sl.owned ho7)
              obtain ⟨hno, hadd⟩ := HSS.out
              have HB7 := Lib.hid (Below.trans H6.out.2.2.1 (hs7.below H6.out.2.2.1.size (fun k hk e => by omega)))
              clear ho7 hc7 hs7
              go_wp2_with (fail)
              go_ret
              exact ⟨rfl, Grows.trans HG0.out HB7.out⟩

set_option maxRecDepth 100000 in
theorem cutStill_lifted (os : Os) (started : os.Started) (H : Type) (enc : TypeId × Value → H) :
    ReturnsInHanded {} Try.checked os 8 .any (Rows.cutStillSpec.pre6 enc Try.prog Try.f8 Rows.cutStillRow.domain false) (Rows.cutStillSpec.post enc Try.prog Try.f8 false true false false) := by
  refine lift_law (C := Try.checked) H enc own started (by kernel_rfl) Try.func8
    (ChangeSpec.witness6 (enc := enc) (C := Try.checked) false ⟨#[], #[.slice none 0 0, .slice none 0 0], []⟩ 16 (by kernel_rfl) (by kernel_rfl) (by kernel_rfl) (by kernel_rfl))
    laidOut (of_readable (by kernel_rfl)) rfl Try.underlying4 rfl (fun ds hd => ?_) (fun W base args ds p hval hA hsz => ?_)
  · match ds, hd with
    | [d1, d2], _ => rfl
  · rw [Try.params8] at hA hval hsz
    obtain ⟨v0, vs0, d0, ds0, p0, q0, hargs, rfl, rfl, h0, r0⟩ := trodAll_cons hA
    obtain ⟨v1, vs1, d1, ds1, p1, q1, rfl, rfl, rfl, h1, r1⟩ := trodAll_cons r0
    obtain ⟨rfl, rfl, rfl⟩ := trodAll_nil r1
    obtain rfl : args = #[v0, v1] := by cases args; simp_all
    obtain ⟨A0, n0, c0, xs0, rfl, hx0⟩ := open_bytes Try.underlying23 Try.underlying5 (by kernel_rfl) (by kernel_rfl) (hval 0 23 v0 rfl rfl) h0 hsz (j := 0) rfl rfl
    obtain ⟨A1, n1, c1, xs1, rfl, hx1⟩ := open_bytes Try.underlying23 Try.underlying5 (by kernel_rfl) (by kernel_rfl) (hval 1 23 v1 rfl rfl) h1 hsz (j := 1) rfl rfl
    exact cutStill_law W A0 n0 c0 xs0 hx0 A1 n1 c1 xs1 hx1

theorem cutStill_over : Rows.cutStillRow.holds Try.pinned (OpenSpec.ofChange Rows.cutStillSpec) :=
  OpenClaim.holds_of_wide 8 Try.f8 rfl rfl rfl rfl rfl rfl rfl ⟨rfl, rfl, rfl, rfl, rfl⟩ rfl rfl rfl rfl rfl (by kernel_rfl) Try.func8 (by kernel_rfl)
    (of_decide_eq_true (by kernel_rfl)) (by unfold Func.isWrapper; first | (rw [if_pos (by decide +kernel)]; kernel_rfl) | (rw [if_neg (by decide +kernel)]; exact ⟨rfl, rfl⟩))
    (fun os started H enc _ => cutStill_lifted os started H enc)
theorem cutStill_holds : Rows.CutStillSaid := cutStill_over
end Go.Proofs.Ytlcpbkbojjpfaaa
