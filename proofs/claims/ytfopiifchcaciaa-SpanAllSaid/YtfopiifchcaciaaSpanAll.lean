/-
  Statement SpanAll: the parts of pieces, one behind the other, are the range of all pieces, one behind the other; no part is empty, and all rise. Every list of pieces, every off and n, no condition.
-/
import Derived.Test.YtfopiifchcaciaaSpBytes
import Derived.Test.YtfopiifchcaciaaSpLit
import Derived.Test.YtfopiifchcaciaaRowsIn2
import Derived.ProofKit
import Derived.ChangeOld
namespace Go.Proofs.Ytfopiifchcaciaa
open Go.ChangeShapes Go.WideShapes Go.ChangeAt Go.RowKit
set_option linter.unusedSimpArgs false
set_option linter.unusedVariables false
attribute [local irreducible] Go.wpQuiet
theorem less_one (e1 : Nat) (h : e1 ≤ 600) : IntKind.i64.wrap ((e1 : Int) + 1 - 1) = (e1 : Int) ∧ wrap64 ((e1 : Int) + 1 - 1) = (e1 : Int) ∧ IntKind.i64.wrap (e1 : Int) = (e1 : Int) ∧ wrap64 (e1 : Int) = (e1 : Int) ∧ (0 : Int) ≤ (e1 : Int) ∧ (e1 : Int) < (e1 : Int) + 1 :=
  ⟨(IntWalk.i64_in _ (by omega)).trans (by omega), (IntWalk.wrap64_in _ (by omega)).trans (by omega), IntWalk.i64_in _ (by omega), IntWalk.wrap64_in _ (by omega), by omega, by omega⟩
theorem i64_few (x : Nat) (h : x ≤ 1000000) : IntKind.i64.wrap ((x : Nat) : Int) = (x : Int) ∧ wrap64 ((x : Nat) : Int) = (x : Int) ∧ IntKind.i64.wrap ((x : Int) + 1) = (x : Int) + 1 := ⟨IntWalk.i64_in _ (by omega), IntWalk.wrap64_in _ (by omega), IntWalk.i64_in _ (by omega)⟩
theorem two_more (e1 : Nat) (h : e1 ≤ 600) : IntKind.i64.wrap ((e1 : Int) + 1 + 1) = (e1 : Int) + 1 + 1 ∧ wrap64 ((e1 : Int) + 1 + 1) = (e1 : Int) + 1 + 1 := ⟨IntWalk.i64_in _ (by omega), IntWalk.wrap64_in _ (by omega)⟩
theorem zero_sum {f d e : Nat} (h : f + d = e) (he : e = f) : d = 0 := by omega
theorem fit_zero (f : Nat) (h : f ≤ 100000) : IntKind.i64.wrap 0 = 0 ∧ wrap64 0 = 0 ∧ IntKind.i64.wrap (f : Int) = (f : Int) ∧ wrap64 (f : Int) = (f : Int) := ⟨IntWalk.i64_in _ (by omega), IntWalk.wrap64_in _ (by omega), IntWalk.i64_in _ (by omega), IntWalk.wrap64_in _ (by omega)⟩
theorem few_more {gm gm1 i x P : Nat} (h : gm ≤ 500 * i) (h1 : gm + x = gm1) (hx : x ≤ 500) (hi : i < P) (hP : P ≤ 200) : gm1 ≤ 500 * (i + 1) ∧ gm1 ≤ 100000 := by omega
theorem loop_less (P i : Nat) (h : i < P) : P - (intOf (.int .i64 ((i : Int) + 1))).toNat < P - (intOf (.int .i64 (i : Int))).toNat := by simp [intOf]; omega
theorem min_other {k x : Int} {d : Int} (h : (if k < x then k else x) = d) : (if x < k then x else k) = d := by rw [← h]; split <;> split <;> omega
theorem fit_these (f d e m : Nat) (h : f + d = e) (h2 : f + d ≤ m) (hm : m ≤ 100000) : IntKind.i64.wrap ((m : Int) - (f : Int)) = (m : Int) - (f : Int) ∧ wrap64 ((m : Int) - (f : Int)) = (m : Int) - (f : Int) ∧ IntKind.i64.wrap ((f : Int) + (d : Int)) = (e : Int) ∧ wrap64 ((f : Int) + (d : Int)) = (e : Int) :=
  ⟨IntWalk.i64_in _ (by omega), IntWalk.wrap64_in _ (by omega), (IntWalk.i64_in _ (by omega)).trans (by omega), (IntWalk.wrap64_in _ (by omega)).trans (by omega)⟩
theorem le_these (f d e m : Nat) (h : f + d = e) (h2 : f + d ≤ m) : f ≤ m ∧ f ≤ e ∧ e ≤ m ∧ f + d = e := by omega
theorem ends_like {bc f e m d : Nat} (h : bc = f) (hc : m ≤ bc) (h2 : f ≤ m ∧ f ≤ e ∧ e ≤ m ∧ f + d = e) : e = f ∧ m = f := by omega
theorem nil_like {bc f e m d : Nat} (h : bc = 0) (hc : m ≤ bc) (h2 : f ≤ m ∧ f ≤ e ∧ e ≤ m ∧ f + d = e) : bc = f := by omega
theorem i64_le {f e m bc : Nat} (h1 : f ≤ e) (h2 : e ≤ bc) (h3 : e ≤ m) (h4 : m ≤ bc) : (0 : Int) ≤ (f : Int) ∧ (f : Int) ≤ (e : Int) ∧ (e : Int) ≤ (bc : Int) ∧ (f : Int) ≤ (bc : Int) := by omega
theorem lens_next (ls : List (List UInt8)) (j m : Nat) (hj : j < ls.length) (hm : (ls.getD j []).length = m) : (lens ls).take (j + 1) = (lens ls).take j ++ [(m : Int)] := by
  rw [List.take_add_one, lens_get ls j hj, hm]
  rfl
theorem flat_next (ls : List (List UInt8)) (j : Nat) (hj : j < ls.length) : (ls.take (j + 1)).flatten = (ls.take j).flatten ++ ls.getD j [] := by
  rw [List.take_add_one, List.getElem?_eq_getElem hj, List.flatten_append]
  simp [hj]
theorem lens_right (ls : List (List UInt8)) (hn : ls.length ≤ 200) (h : ∀ i, i < ls.length → 0 < (ls.getD i []).length ∧ (ls.getD i []).length ≤ 500) : rightP (lens ls) = true := by
  refine right_all (by rw [lens_len]; omega) fun j x hx => ?_
  have hj : j < ls.length := by
    rcases Nat.lt_or_ge j (lens ls).length with h' | h'
    · rwa [lens_len] at h'
    · rw [List.getElem?_eq_none h'] at hx; cases hx
  rw [lens_get ls j hj] at hx
  injection hx with hx
  have := h j hj
  omega

set_option maxRecDepth 100000 in
set_option maxHeartbeats 8000000 in
theorem spanAll_law (w : World) (A : Option Addr) (n c : Nat) (ls : List (List UInt8)) (hx : Lists w A n c ls) (hc : c ≤ 140737488351232) (hb : ∀ l ∈ ls, l.length ≤ 140737488351232) (off : Int) (ho : (-9223372036854775808 ≤ off ∧ off ≤ 9223372036854775807)) (k : Int) (hk : (-9223372036854775808 ≤ k ∧ k ≤ 9223372036854775807)) :
    Calls Try.prog 5 #[.slice A n c, .int .i64 off, .int .i64 k] w fun e w' => e = .returned (.bool true) ∧ Below w.heap.size w w' := by
  have HX := Lib.hid hx
  have HOK := Lib.hid (And.intro ho hk)
  have HLN := Lib.hid hx.len
  have hcap := hx.cap
  clear hx ho hk hb
  go_enter Try.func5, Try.ntmps5
  go_wp2_with (fail)
  refine (head7_any w).mono ?_
  rintro e w0 ⟨rfl, hb0⟩
  have HG0 := Lib.hid hb0
  clear hb0
  by_cases hbig : (200 : Int) < (n : Int)
  · go_wp2_with (fail)
    go_ret
    exact ⟨rfl, HG0.out⟩
  obtain ⟨i0, hi0, hz0, hz1, hz2⟩ := info_parts infoU8
  have HI := Lib.hid (And.intro hi0 (And.intro hz0 (And.intro hz1 hz2)))
  obtain ⟨i1, hi0', hz0', hz1', hz2'⟩ := info_parts infoI
  have HI1 := Lib.hid (And.intro hi0' (And.intro hz0' (And.intro hz1' hz2')))
  clear hi0 hz0 hz1 hz2 hi0' hz0' hz1' hz2'
  go_wp2_with (fail)
  go_loopw [8, 9, 10] (fun s b i wr => ∃ (SA BA : Option Addr) (sc bc m j : Nat), j ≤ n ∧ m ≤ 500 * j ∧ s = .slice SA j sc ∧ b = .slice BA m bc ∧ i = .int .i64 (j : Int) ∧ Hid (wr.ownsRow w0.heap.size 3 1 (.slice SA j sc) j (((lens ls).take j).map iV)) ∧
    Hid (wr.ownsRow w0.heap.size 5 1 (.slice BA m bc) m ((ls.take j).flatten.map byteV)) ∧ Hid (∀ i, i < j → 0 < (ls.getD i []).length ∧ (ls.getD i []).length ≤ 500) ∧ Hid (Below w0.heap.size w0 wr)) (fun _ _ i _ => n - (intOf i).toNat)
  case atStart => exact ⟨none, none, 0, 0, 0, 0, by omega, by omega, rfl, rfl, rfl, Lib.hid (World.ownsRow_nil _ _ _ _), Lib.hid (World.ownsRow_nil _ _ _ _), Lib.hid (fun i hi => by omega), Lib.hid (Below.refl _ _)⟩
  case round =>
    obtain ⟨SA, BA, sc, bc, m, j, hj, hm, rfl, rfl, rfl, HS, HT, HP, HB⟩ := hrel
    by_cases hlt : j < n
    · obtain ⟨ad, PB, pm, pd, rfl, hblk, hcell, hsl⟩ := HX.out.get hlt
      have hg : Grows w wr := Below.trans HG0.out (Below.mono HB.out HG0.out.size)
      have hcw : wr.cell? (ad.add j) = some (.slice PB pm pd) := (hg.cell (by rw [add_block]; exact hblk)).trans hcell
      obtain ⟨l, hl⟩ : ∃ l, ls.getD j [] = l := ⟨_, rfl⟩
      rw [hl] at hsl
      have hpl : l.length = pm := hsl.len
      have i0' : (0 : Int) ≤ (j : Int) := by omega
      have i1' : (j : Int) < (n : Int) := by omega
      have HC := Lib.hid (And.intro hcell (And.intro hblk hsl))
      have HL := Lib.hid (And.intro hl hpl)
      clear hcell hblk hsl hl hpl
      by_cases h0 : pm = 0
      · have h0' : ((pm : Int) == 0) = true := by simp; omega
        have HGG := Lib.hid hg
        clear hg
        go_wp2_with (fail)
        go_ret
        exact ⟨rfl, HGG.out⟩
      have h0' : ((pm : Int) == 0) = false := by simp; omega
      by_cases h5 : (500 : Int) < (pm : Int)
      · have HGG := Lib.hid hg
        clear hg
        go_wp2_with (fail)
        go_ret
        exact ⟨rfl, HGG.out⟩
      obtain ⟨k1, k2, _⟩ := i64_few pm (by omega)
      obtain ⟨_, _, k3⟩ := i64_few j (by omega)
      have HGG := Lib.hid hg
      obtain ⟨m1, hm1⟩ : ∃ m1, m + pm = m1 := ⟨_, rfl⟩
      have HM1 := Lib.hid (And.intro hm1 (show m1 ≤ 500 * (j + 1) ∧ m1 ≤ 100000 by omega))
      clear hg hm1
      go_wp2_with (first
        | (at_builtin
           refine list_append_at rfl (.tmp 41) (.tmp 47) 28 rfl w0.heap.size 3 i1 (.int .i64 0) 1 8 Try.underlying28 HI1.out.1 HI1.out.2.1 HI1.out.2.2.1 HI1.out.2.2.2 rfl (by decide) rfl
             (owned_grow HS.out (grows_alloc _ _)) (A := some ⟨wr.heap.size, 0, none⟩) (m := 1) (c := 1) (B := (wr.alloc (.cells #[.int .i64 (pm : Int)] 3)).heap.size) (news := [iV (pm : Int)]) rfl
             (row_lit (Whole.made wr 3 #[.int .i64 (pm : Int)]) [iV (pm : Int)] rfl rfl) (fun h => by cases h) (by intro u hu; rw [List.mem_singleton.1 hu]; rfl) (j + 1) rfl (by unfold maxLen; omega) (by omega) (by rw [World.size_alloc]; have := HB.out.size; omega) ?_
           intro A1 c1 w1 ho1 hg1 hd1
           have HB1 := Lib.hid (Below.trans HB.out (Below.trans (Below.mono (grows_alloc wr (.cells #[.int .i64 (pm : Int)] 3)) HB.out.size) (below_append (Below.refl w0.heap.size _) hg1 (by rw [World.size_alloc]; have := HB.out.size; omega) fun g hg => (owned_lt3 HS.out hg).1)))
           have HT1 := Lib.hid (own_unlike (owned_grow HT.out (grows_alloc _ _)) (owned_grow HS.out (grows_alloc _ _)) (by decide) hg1)
           have HS1 := Lib.hid ho1
           have HG1 := Lib.hid (show Grows w w1 from Below.trans HG0.out (Below.mono HB1.out HG0.out.size))
           have hcw1 : w1.cell? (ad.add j) = some (.slice PB pm pd) := (HG1.out.cell (by rw [add_block]; exact HC.out.2.1)).trans HC.out.1
           clear ho1 hg1 hd1)
        | (at_builtin
           refine list_append_at rfl (.tmp 49) (.tmp 53) 38 rfl w0.heap.size 5 i0 (.int .u8 0) 1 1 Try.underlying38 HI.out.1 HI.out.2.1 HI.out.2.2.1 HI.out.2.2.2 rfl (by decide) rfl
             HT1.out (news := l.map byteV) rfl (by rw [Nat.one_mul]; exact (HC.out.2.2.grow HG1.out).bytes) HC.out.2.2.bare (byteV_one l) m1 HM1.out.1 (by unfold maxLen; have := HM1.out.2.2; omega) (by have := HM1.out.2.2; omega) HB1.out.size ?_
           intro A2 c2 w2 ho2 hg2 hd2
           have HB2 := Lib.hid (Below.trans HB1.out (below_append (Below.refl w0.heap.size _) hg2 HB1.out.size fun g hg => (owned_lt3 HT1.out hg).1))
           have HS2 := Lib.hid (own_unlike HS1.out HT1.out (by decide) hg2)
           have HT2 := Lib.hid ho2
           clear ho2 hg2 hd2)
        | fail)
      exact ⟨⟨A1, A2, c1, c2, m1, j + 1, by omega, HM1.out.2.1, rfl, rfl, rfl, Lib.hid (by rw [lens_next ls j pm (by have := HLN.out; omega) (by rw [HL.out.1]; exact HL.out.2), List.map_append]; exact HS2.out), Lib.hid (by rw [flat_next ls j (by have := HLN.out; omega), HL.out.1, List.map_append]; exact HT2.out),
        Lib.hid (fun i hi => by
          by_cases e : i = j
          · rw [e, HL.out.1, HL.out.2]; omega
          · exact HP.out i (by omega)), HB2⟩, by simp [intOf]; omega⟩
    · obtain rfl : j = n := by omega
      have htk : (lens ls).take j = lens ls := List.take_of_length_le (by rw [lens_len]; have := HLN.out; omega)
      have htk2 : ls.take j = ls := List.take_of_length_le (by have := HLN.out; omega)
      rw [htk] at HS
      rw [htk2] at HT
      have HR := Lib.hid (lens_right ls (by have := HLN.out; omega) (fun i hi => HP.out i (by have := HLN.out; omega)))
      have HX2 := Lib.hid (Ints.owned HS.out)
      have HAL := Lib.hid (Sl.owned HT.out)
      have HG := Lib.hid (show Grows w wr from Below.trans HG0.out (Below.mono HB.out HG0.out.size))
      have HTM : Hid (tot (lens ls) = (m : Int)) := Lib.hid (by rw [tot_lens, HAL.out.len])
      have HSZ : Hid (sizeP (lens ls) = (m : Int)) := Lib.hid ((size_right HR.out).trans HTM.out)
      have HMB := Lib.hid (show m ≤ 100000 by omega)
      clear htk htk2 HS HT
      go_wp2_with (fail)
      have hp := parts_of SA j sc (lens ls) off k wr HX2.out HOK.out.1 HOK.out.2
      by_cases hbad : off < 0 ∨ (m : Int) < off ∨ k < 0
      · rw [all_no HR.out off k (by rw [HTM.out]; exact hbad)] at hp
        refine hp.mono ?_
        clear hp
        rintro e w1 ⟨A1, c1, rfl, ho1, hb1⟩
        have H1 := Lib.hid (Grows.trans HG.out hb1)
        clear ho1 hb1
        simp only [List.length_nil]
        by_cases h1 : off < 0
        · clear hbad
          go_wp2_with (fail)
          go_ret
          exact ⟨rfl, H1.out⟩
        by_cases h2 : (m : Int) < off
        · clear hbad
          go_wp2_with (fail)
          go_ret
          exact ⟨rfl, H1.out⟩
        · have h3 : k < 0 := by omega
          clear hbad
          go_wp2_with (fail)
          go_ret
          exact ⟨rfl, H1.out⟩
      have g1 : ¬ off < 0 := by omega
      have g2 : ¬ (m : Int) < off := by omega
      have g3 : ¬ k < 0 := by omega
      clear hbad
      obtain ⟨f, rfl⟩ := Int.eq_ofNat_of_zero_le (show 0 ≤ off by omega)
      obtain ⟨d, hd⟩ : ∃ d : Nat, (if k < (m : Int) - (f : Int) then k else (m : Int) - (f : Int)) = (d : Int) := Int.eq_ofNat_of_zero_le (by split <;> omega)
      have hd2 : f + d ≤ m ∧ f ≤ m := by split at hd <;> omega
      obtain ⟨e, he⟩ : ∃ e, f + d = e := ⟨_, rfl⟩
      obtain ⟨PS, hPS⟩ : ∃ PS, partsP (f : Int) (e : Int) 0 0 (lens ls) = PS := ⟨_, rfl⟩
      have hall := (all_yes HR.out (f : Int) k (e : Int) (by rw [HTM.out]; omega) (by rw [HTM.out, hd]; omega)).trans hPS
      have HCAT : Hid (catP ls PS = (ls.flatten.take e).drop f) := Lib.hid (by
        have h := catP_parts (f : Int) (e : Int) ls [] 0
        simp only [List.nil_append, List.length_nil, Int.sub_zero, Int.toNat_natCast] at h
        rw [← hPS]
        exact h)
      have HGOOD : Hid (∀ p ∈ PS, ∃ j f t : Nat, p = ((j : Int), (f : Int), (t : Int)) ∧ j < ls.length ∧ f < t ∧ t ≤ (ls.getD j []).length) := Lib.hid (fun p hp => by
        rw [← hPS] at hp
        obtain ⟨j, f, t, h1, _, h3, h4, h5⟩ := parts_good (f : Int) (e : Int) ls [] 0 p (by simpa using hp)
        exact ⟨j, f, t, h1, by simpa using h3, h4, by simpa using h5⟩)
      have HRISE : Hid (PS.Pairwise fun p q => p.1 < q.1) := Lib.hid (by rw [← hPS]; exact parts_rise _ _ _ _ _)
      have HPL : Hid (PS.length ≤ 200) := Lib.hid (by have h := parts_few (f : Int) (e : Int) (lens ls) 0 0; rw [hPS, lens_len] at h; have := HLN.out; omega)
      rw [hall] at hp
      have HD := Lib.hid (And.intro hd (And.intro hd2 he))
      clear hall hPS hd hd2 he
      refine hp.mono ?_
      clear hp
      rintro e' w1 ⟨A1, c1, rfl, ho1, hb1⟩
      have H1 := Lib.hid (And.intro (Pts.owned rfl ho1) hb1)
      clear ho1 hb1
      obtain ⟨P, hP⟩ : ∃ P, PS.length = P := ⟨_, rfl⟩
      rw [hP] at H1 HPL
      rw [hP]
      have HPP := Lib.hid hP
      clear hP
      go_wp2_with (fail)
      go_loopw [12, 13] (fun b i wr => ∃ (GA : Option Addr) (gc gm i' : Nat), i' ≤ P ∧ gm ≤ 500 * i' ∧ b = .slice GA gm gc ∧ i = .int .i64 (i' : Int) ∧ Hid (wr.ownsRow w1.heap.size 5 1 (.slice GA gm gc) gm ((catP ls (PS.take i')).map byteV)) ∧ Hid (Grows w1 wr)) (fun _ i _ => P - (intOf i).toNat)
      case atStart => exact ⟨none, 0, 0, 0, by omega, by omega, rfl, rfl, Lib.hid (World.ownsRow_nil _ _ _ _), Lib.hid (Grows.refl _)⟩
      case round =>
        obtain ⟨GA, gc, gm, i, hi, hgm, rfl, rfl, HO, HGR⟩ := hrel
        by_cases hlt2 : i < P
        · obtain ⟨ad, p, rfl, hpi, hblk, x0, x1, x2⟩ := (H1.out.1.grow HGR.out).get hlt2
          obtain ⟨pj, pf, pt, rfl, hpj, hft, hpt⟩ := HGOOD.out p (List.mem_of_getElem? hpi)
          dsimp only at x0 x1 x2
          obtain ⟨bd, QB, qm, qd, rfl, qblk, qcell, qsl⟩ := HX.out.get (show pj < j by have := HLN.out; omega)
          obtain ⟨l, hl⟩ : ∃ l, ls.getD pj [] = l := ⟨_, rfl⟩
          rw [hl] at qsl hpt
          have hql : l.length = qm := qsl.len
          have hq5 := HP.out pj (by have := HLN.out; omega)
          rw [hl] at hq5
          rw [hql] at hpt hq5
          obtain ⟨qb, rfl⟩ : ∃ qb, QB = some qb := by
            obtain ⟨qb, hqb, _⟩ := qsl.bytes.spot (k := 0) hq5.1
            exact ⟨qb, hqb⟩
          have i0' : (0 : Int) ≤ (i : Int) := by omega
          have i1' : (i : Int) < (P : Int) := by omega
          obtain ⟨_, _, i2'⟩ := i64_few i (by have := HPL.out; omega)
          have HGW := Lib.hid (show Grows w wr from Grows.trans (Grows.trans HG.out H1.out.2) HGR.out)
          obtain ⟨W3, hW3⟩ : ∃ W3, wr.alloc (.cells #[.int .i64 (pj : Int), .int .i64 (pf : Int), .int .i64 (pt : Int)] 40) = W3 := ⟨_, rfl⟩
          have g3' : Grows wr W3 := hW3 ▸ grows_alloc _ _
          have hwp : Whole W3 wr.heap.size 40 #[.int .i64 (pj : Int), .int .i64 (pf : Int), .int .i64 (pt : Int)] := by rw [← hW3]; exact Whole.made _ _ _
          have HCC : Hid (∀ w', Grows W3 w' → w'.cell? ⟨wr.heap.size, 0, none⟩ = some (.int .i64 (pj : Int)) ∧ w'.cell? ⟨wr.heap.size, 1, none⟩ = some (.int .i64 (pf : Int)) ∧ w'.cell? ⟨wr.heap.size, 2, none⟩ = some (.int .i64 (pt : Int)) ∧
              w'.cell? (bd.add pj) = some (.slice (some qb) qm qd) ∧ (∀ i2 pj2, i = i2 + 1 → (∃ q, PS[i2]? = some ((pj2 : Int), q)) → w'.cell? (ad.add (i2 * 3)) = some (.int .i64 (pj2 : Int)))) := Lib.hid (fun w' hg => by
            have hh := hg.whole hwp
            refine ⟨hh.cell 0, hh.cell 1, hh.cell 2, ((Grows.trans HGW.out (Grows.trans g3' hg)).cell (by rw [add_block]; exact qblk)).trans qcell, fun i2 pj2 he hq => ?_⟩
            obtain ⟨q, hq⟩ := hq
            obtain ⟨ad', p', hA, hp', _, y0, _, _⟩ := (H1.out.1.grow (Grows.trans HGR.out (Grows.trans g3' hg))).get (Nat.lt_trans (show i2 < i by rw [he]; exact Nat.lt_succ_self i2) hlt2)
            injection hA with hA
            subst hA
            rw [hq] at hp'
            injection hp' with hp'
            subst hp'
            exact y0)
          have HPI := Lib.hid (And.intro hpi (And.intro hl (And.intro qsl (And.intro hql (And.intro g3' hq5)))))
          have HX3 := Lib.hid hW3
          have c1 : (0 : Int) ≤ (pj : Int) := by omega
          have c2 : (pj : Int) < (j : Int) := by have := HLN.out; omega
          have c3 : (0 : Int) ≤ (pf : Int) := by omega
          have c4 : (pf : Int) < (pt : Int) := by omega
          have c5 : (pt : Int) ≤ (qm : Int) := by omega
          have c6 : (qm : Int) ≤ (qd : Int) := by have := qsl.cap; omega
          have c7 : (pt : Int) ≤ (qd : Int) := by omega
          have HNUM := Lib.hid (show (pf : Int) ≤ (pt : Int) ∧ ¬ qd = pf ∧ pf ≤ pt ∧ pt ≤ qm ∧ qm ≤ 500 by have := qsl.cap; omega)
          have HDEC := Lib.hid (And.intro (decide_eq_false (show ¬ (pj : Int) < 0 by omega)) (And.intro (decide_eq_false (show ¬ j ≤ pj by omega)) (And.intro (decide_eq_false (show ¬ (pf : Int) < 0 by omega)) (And.intro (decide_eq_false (show ¬ pt ≤ pf by omega)) (decide_eq_false (show ¬ qm < pt by omega))))))
          clear hpi hl hql qsl qblk qcell g3' hwp hW3 hblk hpj hq5
          go_wp2_with (first | rw [HX3.out] | fail)
          by_cases hz : i = 0
          · subst hz
            refine q_region mixed (by kernel_rfl) ?_
            iterate 37 (refine q_op' (v := ?_) (a' := ?_) (by rfl) ?_ ?_ ?_
                        rotate_left 2
                        · intro w' hC
                          obtain ⟨z0, z1, z2, z3, _⟩ := HCC.out w' hC
                          obtain ⟨b0, b1, b2, b3, b4⟩ := HDEC.out
                          clear hC
                          go_simp
                          try with_reducible rfl
                        · simp only [Act.put, List.setIfInBounds_toArray, List.set_cons_zero, List.set_cons_succ]
                          try rfl)
            iterate 9 (refine q_skip' (a' := ?_) (by rfl) ?_ ?_
                       rotate_left 1
                       · simp only [Act.put, List.setIfInBounds_toArray, List.set_cons_zero, List.set_cons_succ]
                         try rfl)
            iterate 2 (refine q_op' (v := ?_) (a' := ?_) (by rfl) ?_ ?_ ?_
                       rotate_left 2
                       · intro w' hC
                         obtain ⟨z0, z1, z2, z3, _⟩ := HCC.out w' hC
                         obtain ⟨b0, b1, b2, b3, b4⟩ := HDEC.out
                         clear hC
                         go_simp
                         try with_reducible rfl
                       · simp only [Act.put, List.setIfInBounds_toArray, List.set_cons_zero, List.set_cons_succ]
                         try rfl)
            refine wpQuiet_nil ?_
            intro w5 hC
            have HCw5 := Lib.hid hC
            clear hC
            go_wp2_with (fail)
            refine wp_region_facts_tail (E := Grows) 11 [valFact (.slice GA gm gc), valFact (.slice (some bd) j c), valFact (.pointer (some ⟨wr.heap.size, 0, none⟩)), valFact (.int .i64 (pj : Int)), valFact (.pointer (some (bd.add pj))), valFact (.slice (some qb) qm qd), valFact (.pointer (some ⟨wr.heap.size, 1, none⟩)), valFact (.int .i64 (pf : Int)), valFact (.pointer (some ⟨wr.heap.size, 2, none⟩)), valFact (.int .i64 (pt : Int)), valFact (.slice (some (qb.add pf)) (pt - pf) (qd - pf))] mixed (by kernel_rfl) (fun _ _ _ => Grows.trans) (grows_drew _) ?_
            simp only [List.take_succ_cons, List.take_zero, List.drop_succ_cons, List.drop_zero]
            refine f_val (.slice GA gm gc) (by rfl) ?_ ?_
            · intro w' hC; clear hC; go_simp
            simp only [Act.put, List.setIfInBounds_toArray, List.set_cons_zero, List.set_cons_succ]
            refine f_val (.slice (some bd) j c) (by rfl) ?_ ?_
            · intro w' hC; clear hC; go_simp
            simp only [Act.put, List.setIfInBounds_toArray, List.set_cons_zero, List.set_cons_succ]
            refine f_val (.pointer (some ⟨wr.heap.size, 0, none⟩)) (by rfl) ?_ ?_
            · intro w' hC; clear hC; go_simp
            simp only [Act.put, List.setIfInBounds_toArray, List.set_cons_zero, List.set_cons_succ]
            refine f_val (.int .i64 (pj : Int)) (by rfl) ?_ ?_
            · intro w' hC; obtain ⟨z0, z1, z2, z3, _⟩ := HCC.out w' (Grows.trans HCw5.out hC); clear hC; go_simp
            simp only [Act.put, List.setIfInBounds_toArray, List.set_cons_zero, List.set_cons_succ]
            refine f_val (.pointer (some (bd.add pj))) (by rfl) ?_ ?_
            · intro w' hC; clear hC; go_simp
            simp only [Act.put, List.setIfInBounds_toArray, List.set_cons_zero, List.set_cons_succ]
            refine f_val (.slice (some qb) qm qd) (by rfl) ?_ ?_
            · intro w' hC; obtain ⟨z0, z1, z2, z3, _⟩ := HCC.out w' (Grows.trans HCw5.out hC); clear hC; go_simp
            simp only [Act.put, List.setIfInBounds_toArray, List.set_cons_zero, List.set_cons_succ]
            refine f_val (.pointer (some ⟨wr.heap.size, 1, none⟩)) (by rfl) ?_ ?_
            · intro w' hC; clear hC; go_simp
            simp only [Act.put, List.setIfInBounds_toArray, List.set_cons_zero, List.set_cons_succ]
            refine f_val (.int .i64 (pf : Int)) (by rfl) ?_ ?_
            · intro w' hC; obtain ⟨z0, z1, z2, z3, _⟩ := HCC.out w' (Grows.trans HCw5.out hC); clear hC; go_simp
            simp only [Act.put, List.setIfInBounds_toArray, List.set_cons_zero, List.set_cons_succ]
            refine f_val (.pointer (some ⟨wr.heap.size, 2, none⟩)) (by rfl) ?_ ?_
            · intro w' hC; clear hC; go_simp
            simp only [Act.put, List.setIfInBounds_toArray, List.set_cons_zero, List.set_cons_succ]
            refine f_val (.int .i64 (pt : Int)) (by rfl) ?_ ?_
            · intro w' hC; obtain ⟨z0, z1, z2, z3, _⟩ := HCC.out w' (Grows.trans HCw5.out hC); clear hC; go_simp
            simp only [Act.put, List.setIfInBounds_toArray, List.set_cons_zero, List.set_cons_succ]
            refine f_val (.slice (some (qb.add pf)) (pt - pf) (qd - pf)) (by rfl) ?_ ?_
            · intro w' hC; obtain ⟨n1, n2, _⟩ := HNUM.out; clear hC; go_simp
            simp only [Act.put, List.setIfInBounds_toArray, List.set_cons_zero, List.set_cons_succ]
            refine wpF_end ?_
            intro w6 hC hks
            have HG6 := Lib.hid (show Grows wr w6 from Grows.trans HPI.out.2.2.2.2.1 (Grows.trans HCw5.out hC))
            clear hC hks
            have hpart := (HPI.out.2.2.1.grow (Grows.trans HGW.out HG6.out)).part (k := pf) (m := pt) HNUM.out.2.2.1 HNUM.out.2.2.2.1 HNUM.out.2.1
            obtain ⟨gm1, hgm1⟩ : ∃ gm1, gm + (pt - pf) = gm1 := ⟨_, rfl⟩
            have HGM := Lib.hid (And.intro hgm1 (few_more hgm hgm1 (Nat.le_trans (Nat.sub_le _ _) (Nat.le_trans HNUM.out.2.2.2.1 HNUM.out.2.2.2.2)) hlt2 HPL.out))
            have HPART := Lib.hid hpart
            clear hpart hgm1
            refine list_append_at rfl (.tmp 135) (.tmp 145) 38 rfl w1.heap.size 5 i0 (.int .u8 0) 1 1 Try.underlying38 HI.out.1 HI.out.2.1 HI.out.2.2.1 HI.out.2.2.2 rfl (by decide) rfl
              (owned_grow HO.out HG6.out) (news := ((l.take pt).drop pf).map byteV) rfl (by rw [Nat.one_mul]; exact HPART.out.bytes) (fun h => by cases h) (byteV_one _) gm1 HGM.out.1 (Nat.le_trans HGM.out.2.2 (by decide)) (by rw [Nat.mul_one]; exact Nat.le_trans HGM.out.2.2 (by decide)) (Nat.le_trans HGR.out.size HG6.out.size) ?_
            intro A8 c8 w8 ho8 hg8 hd8
            have HB8 := Lib.hid (show Grows w1 w8 from Below.trans (Grows.trans HGR.out HG6.out) (below_append (Below.refl w1.heap.size _) hg8 (Nat.le_trans HGR.out.size HG6.out.size) fun g hg => (owned_lt3 HO.out hg).1))
            have hnx := catP_next ls PS (0) _ HPI.out.1
            have hpc : pieceP ls ((pj : Int), (pf : Int), (pt : Int)) = (l.take pt).drop pf := by
              unfold pieceP
              simp only [Int.toNat_natCast]
              rw [HPI.out.2.1]
            rw [← List.map_append, ← hpc, ← hnx] at ho8
            have HO8 := Lib.hid ho8
            clear ho8 hg8 hd8 hnx hpc
            simp only [Act.put, List.setIfInBounds_toArray, List.set_cons_zero, List.set_cons_succ]
            go_wp2_with (fail)
            exact ⟨⟨A8, c8, gm1, 0 + 1, hlt2, HGM.out.2.1, rfl, rfl, HO8, HB8⟩, loop_less P (0) hlt2⟩
          · obtain ⟨i2, rfl⟩ := Nat.exists_eq_add_one_of_ne_zero hz
            obtain ⟨u1, u2, u3, u4, u5, u6⟩ := less_one i2 (Nat.le_trans (Nat.le_of_lt (Nat.lt_of_succ_lt hlt2)) (Nat.le_trans HPL.out (by decide)))
            have hi2 : i2 < PS.length := by rw [HPP.out]; exact Nat.lt_of_succ_lt hlt2
            obtain ⟨⟨pj2, pf2, pt2⟩, hq2⟩ : ∃ q : Pt, PS[i2]? = some q := ⟨_, List.getElem?_eq_getElem hi2⟩
            have hr2 := rise_at HRISE.out hq2 HPI.out.1
            obtain ⟨j2, f2, t2, e2, _⟩ := HGOOD.out _ (List.mem_of_getElem? hq2)
            injection e2 with e2 _
            subst e2
            have c8 : (j2 : Int) < (pj : Int) := hr2
            have HZ := Lib.hid (show ∀ w', Grows W3 w' → w'.cell? (ad.add (i2 * 3)) = some (.int .i64 (j2 : Int)) from fun w' hg => (HCC.out w' hg).2.2.2.2 i2 j2 rfl ⟨_, hq2⟩)
            have c9 : (0 : Int) < ((i2 + 1 : Nat) : Int) := Int.natCast_pos.2 (Nat.succ_pos i2)
            have c10 : (0 : Int) < (i2 : Int) + 1 := Int.lt_add_one_of_le (Int.natCast_nonneg i2)
            obtain ⟨u7, u8⟩ := two_more i2 (Nat.le_trans (Nat.le_of_lt (Nat.lt_of_succ_lt hlt2)) (Nat.le_trans HPL.out (by decide)))
            have c11 : (i2 : Int) < (P : Int) := Int.ofNat_lt.2 (Nat.lt_of_succ_lt hlt2)
            have HDEC2 := Lib.hid (And.intro (decide_eq_false (show ¬ pj ≤ j2 from Nat.not_le.2 (Int.ofNat_lt.1 c8))) (decide_eq_true (show 0 < i2 + 1 from Nat.succ_pos i2)))
            clear hi2 hq2 hr2
            refine q_region mixed (by kernel_rfl) ?_
            iterate 48 (refine q_op' (v := ?_) (a' := ?_) (by rfl) ?_ ?_ ?_
                        rotate_left 2
                        · intro w' hC
                          obtain ⟨z0, z1, z2, z3, _⟩ := HCC.out w' hC
                          obtain ⟨b0, b1, b2, b3, b4⟩ := HDEC.out
                          have z4 := HZ.out w' hC
                          obtain ⟨b5, b6⟩ := HDEC2.out
                          clear hC
                          go_simp
                          try with_reducible rfl
                        · simp only [Act.put, List.setIfInBounds_toArray, List.set_cons_zero, List.set_cons_succ]
                          try rfl)
            refine wpQuiet_nil ?_
            intro w5 hC
            have HCw5 := Lib.hid hC
            clear hC
            go_wp2_with (fail)
            refine wp_region_facts_tail (E := Grows) 11 [valFact (.slice GA gm gc), valFact (.slice (some bd) j c), valFact (.pointer (some ⟨wr.heap.size, 0, none⟩)), valFact (.int .i64 (pj : Int)), valFact (.pointer (some (bd.add pj))), valFact (.slice (some qb) qm qd), valFact (.pointer (some ⟨wr.heap.size, 1, none⟩)), valFact (.int .i64 (pf : Int)), valFact (.pointer (some ⟨wr.heap.size, 2, none⟩)), valFact (.int .i64 (pt : Int)), valFact (.slice (some (qb.add pf)) (pt - pf) (qd - pf))] mixed (by kernel_rfl) (fun _ _ _ => Grows.trans) (grows_drew _) ?_
            simp only [List.take_succ_cons, List.take_zero, List.drop_succ_cons, List.drop_zero]
            refine f_val (.slice GA gm gc) (by rfl) ?_ ?_
            · intro w' hC; clear hC; go_simp
            simp only [Act.put, List.setIfInBounds_toArray, List.set_cons_zero, List.set_cons_succ]
            refine f_val (.slice (some bd) j c) (by rfl) ?_ ?_
            · intro w' hC; clear hC; go_simp
            simp only [Act.put, List.setIfInBounds_toArray, List.set_cons_zero, List.set_cons_succ]
            refine f_val (.pointer (some ⟨wr.heap.size, 0, none⟩)) (by rfl) ?_ ?_
            · intro w' hC; clear hC; go_simp
            simp only [Act.put, List.setIfInBounds_toArray, List.set_cons_zero, List.set_cons_succ]
            refine f_val (.int .i64 (pj : Int)) (by rfl) ?_ ?_
            · intro w' hC; obtain ⟨z0, z1, z2, z3, _⟩ := HCC.out w' (Grows.trans HCw5.out hC); clear hC; go_simp
            simp only [Act.put, List.setIfInBounds_toArray, List.set_cons_zero, List.set_cons_succ]
            refine f_val (.pointer (some (bd.add pj))) (by rfl) ?_ ?_
            · intro w' hC; clear hC; go_simp
            simp only [Act.put, List.setIfInBounds_toArray, List.set_cons_zero, List.set_cons_succ]
            refine f_val (.slice (some qb) qm qd) (by rfl) ?_ ?_
            · intro w' hC; obtain ⟨z0, z1, z2, z3, _⟩ := HCC.out w' (Grows.trans HCw5.out hC); clear hC; go_simp
            simp only [Act.put, List.setIfInBounds_toArray, List.set_cons_zero, List.set_cons_succ]
            refine f_val (.pointer (some ⟨wr.heap.size, 1, none⟩)) (by rfl) ?_ ?_
            · intro w' hC; clear hC; go_simp
            simp only [Act.put, List.setIfInBounds_toArray, List.set_cons_zero, List.set_cons_succ]
            refine f_val (.int .i64 (pf : Int)) (by rfl) ?_ ?_
            · intro w' hC; obtain ⟨z0, z1, z2, z3, _⟩ := HCC.out w' (Grows.trans HCw5.out hC); clear hC; go_simp
            simp only [Act.put, List.setIfInBounds_toArray, List.set_cons_zero, List.set_cons_succ]
            refine f_val (.pointer (some ⟨wr.heap.size, 2, none⟩)) (by rfl) ?_ ?_
            · intro w' hC; clear hC; go_simp
            simp only [Act.put, List.setIfInBounds_toArray, List.set_cons_zero, List.set_cons_succ]
            refine f_val (.int .i64 (pt : Int)) (by rfl) ?_ ?_
            · intro w' hC; obtain ⟨z0, z1, z2, z3, _⟩ := HCC.out w' (Grows.trans HCw5.out hC); clear hC; go_simp
            simp only [Act.put, List.setIfInBounds_toArray, List.set_cons_zero, List.set_cons_succ]
            refine f_val (.slice (some (qb.add pf)) (pt - pf) (qd - pf)) (by rfl) ?_ ?_
            · intro w' hC; obtain ⟨n1, n2, _⟩ := HNUM.out; clear hC; go_simp
            simp only [Act.put, List.setIfInBounds_toArray, List.set_cons_zero, List.set_cons_succ]
            refine wpF_end ?_
            intro w6 hC hks
            have HG6 := Lib.hid (show Grows wr w6 from Grows.trans HPI.out.2.2.2.2.1 (Grows.trans HCw5.out hC))
            clear hC hks
            have hpart := (HPI.out.2.2.1.grow (Grows.trans HGW.out HG6.out)).part (k := pf) (m := pt) HNUM.out.2.2.1 HNUM.out.2.2.2.1 HNUM.out.2.1
            obtain ⟨gm1, hgm1⟩ : ∃ gm1, gm + (pt - pf) = gm1 := ⟨_, rfl⟩
            have HGM := Lib.hid (And.intro hgm1 (few_more hgm hgm1 (Nat.le_trans (Nat.sub_le _ _) (Nat.le_trans HNUM.out.2.2.2.1 HNUM.out.2.2.2.2)) hlt2 HPL.out))
            have HPART := Lib.hid hpart
            clear hpart hgm1
            refine list_append_at rfl (.tmp 135) (.tmp 145) 38 rfl w1.heap.size 5 i0 (.int .u8 0) 1 1 Try.underlying38 HI.out.1 HI.out.2.1 HI.out.2.2.1 HI.out.2.2.2 rfl (by decide) rfl
              (owned_grow HO.out HG6.out) (news := ((l.take pt).drop pf).map byteV) rfl (by rw [Nat.one_mul]; exact HPART.out.bytes) (fun h => by cases h) (byteV_one _) gm1 HGM.out.1 (Nat.le_trans HGM.out.2.2 (by decide)) (by rw [Nat.mul_one]; exact Nat.le_trans HGM.out.2.2 (by decide)) (Nat.le_trans HGR.out.size HG6.out.size) ?_
            intro A8 c8 w8 ho8 hg8 hd8
            have HB8 := Lib.hid (show Grows w1 w8 from Below.trans (Grows.trans HGR.out HG6.out) (below_append (Below.refl w1.heap.size _) hg8 (Nat.le_trans HGR.out.size HG6.out.size) fun g hg => (owned_lt3 HO.out hg).1))
            have hnx := catP_next ls PS (i2 + 1) _ HPI.out.1
            have hpc : pieceP ls ((pj : Int), (pf : Int), (pt : Int)) = (l.take pt).drop pf := by
              unfold pieceP
              simp only [Int.toNat_natCast]
              rw [HPI.out.2.1]
            rw [← List.map_append, ← hpc, ← hnx] at ho8
            have HO8 := Lib.hid ho8
            clear ho8 hg8 hd8 hnx hpc
            simp only [Act.put, List.setIfInBounds_toArray, List.set_cons_zero, List.set_cons_succ]
            go_wp2_with (fail)
            exact ⟨⟨A8, c8, gm1, i2 + 1 + 1, hlt2, HGM.out.2.1, rfl, rfl, HO8, HB8⟩, loop_less P (i2 + 1) hlt2⟩
        · have hiP : i = P := Nat.le_antisymm hi (Nat.le_of_not_lt hlt2)
          subst hiP
          rw [List.take_of_length_le (Nat.le_of_eq HPP.out), HCAT.out] at HO
          obtain ⟨G, hG⟩ : ∃ G, (ls.flatten.take e).drop f = G := ⟨_, rfl⟩
          rw [hG] at HO
          have HGS := Lib.hid (Sl.owned HO.out)
          have HAS := Lib.hid (HAL.out.grow (Grows.trans H1.out.2 HGR.out))
          have hD := HD.out
          have HMIN := Lib.hid (min_other hD.1)
          have HWR := Lib.hid (fit_these f d e m hD.2.2 hD.2.1.1 HMB.out)
          have HFE := Lib.hid (le_these f d e m hD.2.2 hD.2.1.1)
          have hlt3 : ¬ (i : Int) < (i : Int) := Int.lt_irrefl _
          clear hD HO
          have hcapB := HAS.out.cap
          by_cases hbf : bc = f
          · have h1 : e = f ∧ m = f := ends_like hbf hcapB HFE.out
            obtain ⟨hef, hmf⟩ := h1
            have hGn : G = [] := by rw [← hG, hef]; exact List.drop_eq_nil_of_le (by rw [List.length_take]; exact Nat.min_le_left _ _)
            have HSN : Hid (Sl wr BA 0 0 G) := Lib.hid (by rw [hGn]; exact ⟨Row.nil _ _ _, Nat.le_refl _, fun _ => rfl⟩)
            have hd0 := zero_sum HFE.out.2.2.2 hef
            have hfb : f ≤ 100000 := by rw [← hmf]; exact HMB.out
            have HW0 := Lib.hid (fit_zero f hfb)
            have HF0 := Lib.hid (And.intro (Int.natCast_nonneg f) (Int.le_refl (f : Int)))
            clear hGn hG hcapB hfb HWR HFE HMB HMIN
            subst hmf
            subst hbf
            subst hef
            subst hd0
            have HM0c := Lib.hid (show 0 ≤ k by first | exact g3 | exact Int.not_lt.1 g3)
            go_wp2_with (fail)
            refine q_region mixed (by kernel_rfl) ?_
            refine q_op (.bool true) (by rfl) ?_ ?_
            · intro w' hC; clear hC; go_simp
            simp only [Act.put, List.setIfInBounds_toArray, List.set_cons_zero, List.set_cons_succ]
            refine q_op (.bool true) (by rfl) ?_ ?_
            · intro w' hC; clear hC; go_simp
            simp only [Act.put, List.setIfInBounds_toArray, List.set_cons_zero, List.set_cons_succ]
            refine q_op (.slice GA gm gc) (by rfl) ?_ ?_
            · intro w' hC; clear hC; go_simp
            simp only [Act.put, List.setIfInBounds_toArray, List.set_cons_zero, List.set_cons_succ]
            refine q_op (.string ⟨G.toArray⟩) (by rfl) ?_ ?_
            · intro w' hC; have r1 := run_string (HGS.out.grow hC); clear hC; go_simp
            simp only [Act.put, List.setIfInBounds_toArray, List.set_cons_zero, List.set_cons_succ]
            refine q_op (.slice BA e e) (by rfl) ?_ ?_
            · intro w' hC; clear hC; go_simp
            simp only [Act.put, List.setIfInBounds_toArray, List.set_cons_zero, List.set_cons_succ]
            refine q_op (.int .i64 (e : Int)) (by rfl) ?_ ?_
            · intro w' hC; clear hC; go_simp
            simp only [Act.put, List.setIfInBounds_toArray, List.set_cons_zero, List.set_cons_succ]
            refine q_op (.int .i64 (e : Int)) (by rfl) ?_ ?_
            · intro w' hC; clear hC; go_simp
            simp only [Act.put, List.setIfInBounds_toArray, List.set_cons_zero, List.set_cons_succ]
            refine q_op (.int .i64 k) (by rfl) ?_ ?_
            · intro w' hC; clear hC; go_simp
            simp only [Act.put, List.setIfInBounds_toArray, List.set_cons_zero, List.set_cons_succ]
            refine q_op (.slice BA e e) (by rfl) ?_ ?_
            · intro w' hC; clear hC; go_simp
            simp only [Act.put, List.setIfInBounds_toArray, List.set_cons_zero, List.set_cons_succ]
            refine q_op (.int .i64 (e : Int)) (by rfl) ?_ ?_
            · intro w' hC; clear hC; go_simp
            simp only [Act.put, List.setIfInBounds_toArray, List.set_cons_zero, List.set_cons_succ]
            refine q_op (.int .i64 (e : Int)) (by rfl) ?_ ?_
            · intro w' hC; clear hC; go_simp
            simp only [Act.put, List.setIfInBounds_toArray, List.set_cons_zero, List.set_cons_succ]
            refine q_op (.int .i64 0) (by rfl) ?_ ?_
            · intro w' hC; obtain ⟨v1, v2, v3, v4⟩ := HW0.out; clear hC; go_simp
            simp only [Act.put, List.setIfInBounds_toArray, List.set_cons_zero, List.set_cons_succ]
            refine q_op (.int .i64 0) (by rfl) ?_ ?_
            · intro w' hC; clear hC; (go_simp; intro hq; exact Int.le_antisymm hq HM0c.out)
            simp only [Act.put, List.setIfInBounds_toArray, List.set_cons_zero, List.set_cons_succ]
            refine q_op (.int .i64 (e : Int)) (by rfl) ?_ ?_
            · intro w' hC; obtain ⟨v1, v2, v3, v4⟩ := HW0.out; clear hC; go_simp
            simp only [Act.put, List.setIfInBounds_toArray, List.set_cons_zero, List.set_cons_succ]
            refine q_op (.slice BA 0 0) (by rfl) ?_ ?_
            · intro w' hC; obtain ⟨n1, n2⟩ := HF0.out; clear hC; go_simp
            simp only [Act.put, List.setIfInBounds_toArray, List.set_cons_zero, List.set_cons_succ]
            refine q_op (.string ⟨G.toArray⟩) (by rfl) ?_ ?_
            · intro w' hC; have r1 := run_string (HSN.out.grow hC); clear hC; go_simp
            simp only [Act.put, List.setIfInBounds_toArray, List.set_cons_zero, List.set_cons_succ]
            refine q_op (.bool true) (by rfl) ?_ ?_
            · intro w' hC; clear hC; go_simp
            simp only [Act.put, List.setIfInBounds_toArray, List.set_cons_zero, List.set_cons_succ]
            refine q_op (.bool true) (by rfl) ?_ ?_
            · intro w' hC; clear hC; go_simp
            simp only [Act.put, List.setIfInBounds_toArray, List.set_cons_zero, List.set_cons_succ]
            refine q_op (.bool true) (by rfl) ?_ ?_
            · intro w' hC; clear hC; go_simp
            simp only [Act.put, List.setIfInBounds_toArray, List.set_cons_zero, List.set_cons_succ]
            refine q_op (.slice SA j sc) (by rfl) ?_ ?_
            · intro w' hC; clear hC; go_simp
            simp only [Act.put, List.setIfInBounds_toArray, List.set_cons_zero, List.set_cons_succ]
            refine q_call 23 #[.slice SA j sc] (.int .i64 (e : Int)) (by rfl) (by intro w' hC; clear hC; go_simp) ?_ ?_
            · intro w' hC; have h := size_any SA j sc (lens ls) w' (HX2.out.grow (Grows.trans H1.out.2 (Grows.trans HGR.out hC))); rw [HSZ.out] at h; exact h.mono fun e w'' ⟨he, hw⟩ => ⟨he, hw ▸ hC⟩
            simp only [Act.put, List.setIfInBounds_toArray, List.set_cons_zero, List.set_cons_succ]
            refine q_op (.slice BA e e) (by rfl) ?_ ?_
            · intro w' hC; clear hC; go_simp
            simp only [Act.put, List.setIfInBounds_toArray, List.set_cons_zero, List.set_cons_succ]
            refine q_op (.int .i64 (e : Int)) (by rfl) ?_ ?_
            · intro w' hC; clear hC; go_simp
            simp only [Act.put, List.setIfInBounds_toArray, List.set_cons_zero, List.set_cons_succ]
            refine q_op (.bool true) (by rfl) ?_ ?_
            · intro w' hC; clear hC; go_simp
            simp only [Act.put, List.setIfInBounds_toArray, List.set_cons_zero, List.set_cons_succ]
            refine q_op (.bool true) (by rfl) ?_ ?_
            · intro w' hC; clear hC; go_simp
            simp only [Act.put, List.setIfInBounds_toArray, List.set_cons_zero, List.set_cons_succ]
            refine q_op (.bool true) (by rfl) ?_ ?_
            · intro w' hC; clear hC; go_simp
            simp only [Act.put, List.setIfInBounds_toArray, List.set_cons_zero, List.set_cons_succ]
            refine wpQuiet_nil ?_
            intro w9 hC
            have H9 := Lib.hid (Grows.trans HG.out (Grows.trans H1.out.2 (Grows.trans HGR.out hC)))
            clear hC
            go_wp2_with (fail)
            go_ret
            exact ⟨rfl, H9.out⟩
          obtain ⟨ba, rfl⟩ : ∃ ba, BA = some ba := by
            cases BA with
            | some ba => exact ⟨ba, rfl⟩
            | none => exact absurd (nil_like (HAS.out.bare rfl) hcapB HFE.out) hbf
          have hpart := HAS.out.part (k := f) (m := e) HFE.out.2.1 HFE.out.2.2.1 hbf
          rw [hG] at hpart
          have HPT := Lib.hid hpart
          have HNB := Lib.hid (And.intro hbf (i64_le HFE.out.2.1 (Nat.le_trans HFE.out.2.2.1 hcapB) HFE.out.2.2.1 hcapB))
          clear hpart hG hbf hcapB
          go_wp2_with (fail)
          refine q_region mixed (by kernel_rfl) ?_
          refine q_op (.bool true) (by rfl) ?_ ?_
          · intro w' hC; clear hC; go_simp
          simp only [Act.put, List.setIfInBounds_toArray, List.set_cons_zero, List.set_cons_succ]
          refine q_op (.bool true) (by rfl) ?_ ?_
          · intro w' hC; clear hC; go_simp
          simp only [Act.put, List.setIfInBounds_toArray, List.set_cons_zero, List.set_cons_succ]
          refine q_op (.slice GA gm gc) (by rfl) ?_ ?_
          · intro w' hC; clear hC; go_simp
          simp only [Act.put, List.setIfInBounds_toArray, List.set_cons_zero, List.set_cons_succ]
          refine q_op (.string ⟨G.toArray⟩) (by rfl) ?_ ?_
          · intro w' hC; have r1 := run_string (HGS.out.grow hC); clear hC; go_simp
          simp only [Act.put, List.setIfInBounds_toArray, List.set_cons_zero, List.set_cons_succ]
          refine q_op (.slice (some ba) m bc) (by rfl) ?_ ?_
          · intro w' hC; clear hC; go_simp
          simp only [Act.put, List.setIfInBounds_toArray, List.set_cons_zero, List.set_cons_succ]
          refine q_op (.int .i64 (f : Int)) (by rfl) ?_ ?_
          · intro w' hC; clear hC; go_simp
          simp only [Act.put, List.setIfInBounds_toArray, List.set_cons_zero, List.set_cons_succ]
          refine q_op (.int .i64 (f : Int)) (by rfl) ?_ ?_
          · intro w' hC; clear hC; go_simp
          simp only [Act.put, List.setIfInBounds_toArray, List.set_cons_zero, List.set_cons_succ]
          refine q_op (.int .i64 k) (by rfl) ?_ ?_
          · intro w' hC; clear hC; go_simp
          simp only [Act.put, List.setIfInBounds_toArray, List.set_cons_zero, List.set_cons_succ]
          refine q_op (.slice (some ba) m bc) (by rfl) ?_ ?_
          · intro w' hC; clear hC; go_simp
          simp only [Act.put, List.setIfInBounds_toArray, List.set_cons_zero, List.set_cons_succ]
          refine q_op (.int .i64 (m : Int)) (by rfl) ?_ ?_
          · intro w' hC; clear hC; go_simp
          simp only [Act.put, List.setIfInBounds_toArray, List.set_cons_zero, List.set_cons_succ]
          refine q_op (.int .i64 (f : Int)) (by rfl) ?_ ?_
          · intro w' hC; clear hC; go_simp
          simp only [Act.put, List.setIfInBounds_toArray, List.set_cons_zero, List.set_cons_succ]
          refine q_op (.int .i64 ((m : Int) - (f : Int))) (by rfl) ?_ ?_
          · intro w' hC; obtain ⟨v1, v2, v3, v4⟩ := HWR.out; clear hC; go_simp
          simp only [Act.put, List.setIfInBounds_toArray, List.set_cons_zero, List.set_cons_succ]
          refine q_op (.int .i64 (d : Int)) (by rfl) ?_ ?_
          · intro w' hC; clear hC; (go_simp; exact HMIN.out)
          simp only [Act.put, List.setIfInBounds_toArray, List.set_cons_zero, List.set_cons_succ]
          refine q_op (.int .i64 (e : Int)) (by rfl) ?_ ?_
          · intro w' hC; obtain ⟨v1, v2, v3, v4⟩ := HWR.out; clear hC; go_simp
          simp only [Act.put, List.setIfInBounds_toArray, List.set_cons_zero, List.set_cons_succ]
          refine q_op (.slice (some (ba.add f)) (e - f) (bc - f)) (by rfl) ?_ ?_
          · intro w' hC; obtain ⟨n1, n2, n3, n4, n5⟩ := HNB.out; clear hC; go_simp
          simp only [Act.put, List.setIfInBounds_toArray, List.set_cons_zero, List.set_cons_succ]
          refine q_op (.string ⟨G.toArray⟩) (by rfl) ?_ ?_
          · intro w' hC; have r1 := run_string (HPT.out.grow hC); clear hC; go_simp
          simp only [Act.put, List.setIfInBounds_toArray, List.set_cons_zero, List.set_cons_succ]
          refine q_op (.bool true) (by rfl) ?_ ?_
          · intro w' hC; clear hC; go_simp
          simp only [Act.put, List.setIfInBounds_toArray, List.set_cons_zero, List.set_cons_succ]
          refine q_op (.bool true) (by rfl) ?_ ?_
          · intro w' hC; clear hC; go_simp
          simp only [Act.put, List.setIfInBounds_toArray, List.set_cons_zero, List.set_cons_succ]
          refine q_op (.bool true) (by rfl) ?_ ?_
          · intro w' hC; clear hC; go_simp
          simp only [Act.put, List.setIfInBounds_toArray, List.set_cons_zero, List.set_cons_succ]
          refine q_op (.slice SA j sc) (by rfl) ?_ ?_
          · intro w' hC; clear hC; go_simp
          simp only [Act.put, List.setIfInBounds_toArray, List.set_cons_zero, List.set_cons_succ]
          refine q_call 23 #[.slice SA j sc] (.int .i64 (m : Int)) (by rfl) (by intro w' hC; clear hC; go_simp) ?_ ?_
          · intro w' hC; have h := size_any SA j sc (lens ls) w' (HX2.out.grow (Grows.trans H1.out.2 (Grows.trans HGR.out hC))); rw [HSZ.out] at h; exact h.mono fun e w'' ⟨he, hw⟩ => ⟨he, hw ▸ hC⟩
          simp only [Act.put, List.setIfInBounds_toArray, List.set_cons_zero, List.set_cons_succ]
          refine q_op (.slice (some ba) m bc) (by rfl) ?_ ?_
          · intro w' hC; clear hC; go_simp
          simp only [Act.put, List.setIfInBounds_toArray, List.set_cons_zero, List.set_cons_succ]
          refine q_op (.int .i64 (m : Int)) (by rfl) ?_ ?_
          · intro w' hC; clear hC; go_simp
          simp only [Act.put, List.setIfInBounds_toArray, List.set_cons_zero, List.set_cons_succ]
          refine q_op (.bool true) (by rfl) ?_ ?_
          · intro w' hC; clear hC; go_simp
          simp only [Act.put, List.setIfInBounds_toArray, List.set_cons_zero, List.set_cons_succ]
          refine q_op (.bool true) (by rfl) ?_ ?_
          · intro w' hC; clear hC; go_simp
          simp only [Act.put, List.setIfInBounds_toArray, List.set_cons_zero, List.set_cons_succ]
          refine q_op (.bool true) (by rfl) ?_ ?_
          · intro w' hC; clear hC; go_simp
          simp only [Act.put, List.setIfInBounds_toArray, List.set_cons_zero, List.set_cons_succ]
          refine wpQuiet_nil ?_
          intro w9 hC
          have H9 := Lib.hid (Grows.trans HG.out (Grows.trans H1.out.2 (Grows.trans HGR.out hC)))
          clear hC
          go_wp2_with (fail)
          go_ret
          exact ⟨rfl, H9.out⟩

set_option maxRecDepth 100000 in
theorem spanAll_lifted (os : Os) (started : os.Started) (H : Type) (enc : TypeId × Value → H) :
    ReturnsInHanded {} Try.checked os 5 .any (Rows.spanAllSpec.pre6 enc Try.prog Try.f5 Rows.spanAllRow.domain false) (Rows.spanAllSpec.post enc Try.prog Try.f5 false true false false) := by
  refine lift_law (C := Try.checked) H enc own started (by kernel_rfl) Try.func5
    (ChangeSpec.witness6 (enc := enc) (C := Try.checked) false ⟨#[], #[.slice none 0 0, .int .i64 0, .int .i64 0], []⟩ 16 (by kernel_rfl) (by kernel_rfl) (by kernel_rfl) (by kernel_rfl))
    laidOut (of_readable (by kernel_rfl)) rfl Try.underlying4 rfl (fun ds hd => ?_) (fun W base args ds p hval hA hsz => ?_)
  · match ds, hd with
    | [d1, d2, d3], _ => rfl
  · rw [Try.params5] at hA hval hsz
    obtain ⟨v0, vs0, d0, ds0, p0, q0, hargs, rfl, rfl, h0, r0⟩ := trodAll_cons hA
    obtain ⟨v1, vs1, d1, ds1, p1, q1, rfl, rfl, rfl, h1, r1⟩ := trodAll_cons r0
    obtain ⟨v2, vs2, d2, ds2, p2, q2, rfl, rfl, rfl, h2, r2⟩ := trodAll_cons r1
    obtain ⟨rfl, rfl, rfl⟩ := trodAll_nil r2
    obtain rfl : args = #[v0, v1, v2] := by cases args; simp_all
    obtain ⟨A0, n0, c0, xs0, rfl, hx0, hc0, hb0⟩ := open_rows2 Try.underlying37 Try.underlying38 Try.underlying5 (by kernel_rfl) (by kernel_rfl) (by kernel_rfl) (by kernel_rfl) (hval 0 37 v0 rfl rfl) h0 hsz (j := 0) rfl rfl
    obtain ⟨a1, rfl, _, _, w1⟩ := open_int Try.underlying3 (hval 1 3 v1 rfl rfl) h1
    have b1 := bounds_i64 w1
    obtain ⟨a2, rfl, _, _, w2⟩ := open_int Try.underlying3 (hval 2 3 v2 rfl rfl) h2
    have b2 := bounds_i64 w2
    exact spanAll_law W A0 n0 c0 xs0 hx0 hc0 hb0 a1 (by omega) a2 (by omega)

theorem spanAll_over : Rows.spanAllRow.holds Try.pinned (OpenSpec.ofChange Rows.spanAllSpec) :=
  OpenClaim.holds_of_wide 5 Try.f5 rfl rfl rfl rfl rfl rfl rfl ⟨rfl, rfl, rfl, rfl, rfl⟩ rfl rfl rfl rfl rfl (by kernel_rfl) Try.func5 (by kernel_rfl)
    (of_decide_eq_true (by kernel_rfl)) (by unfold Func.isWrapper; first | (rw [if_pos (by decide +kernel)]; kernel_rfl) | (rw [if_neg (by decide +kernel)]; exact ⟨rfl, rfl⟩))
    (fun os started H enc _ => spanAll_lifted os started H enc)
theorem spanAll_holds : Rows.SpanAllSaid := spanAll_over
end Go.Proofs.Ytfopiifchcaciaa
