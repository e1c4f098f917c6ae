/-
  ScanAll holds of any bodies: frames one behind the other are all found, in order, with what they have; no condition.
-/
import Derived.Test.YtchndjebgpibjaaLawBits
import Derived.Test.YtchndjebgpibjaaGreat
import Derived.IntWalk
namespace Go.Proofs.Ytchndjebgpibjaa
open Go.ChangeShapes Go.WideShapes Go.ChangeAt Go.RowKit

set_option maxRecDepth 100000 in
set_option maxHeartbeats 4000000 in
theorem all_law {w : World} (A : Option Addr) (n c : Nat) (ls : List (List UInt8)) (hs : Lists w A n c ls) (hcc : c ≤ 140737488351232) :
    Calls Try.prog 4 #[.slice A n c] w fun e w' => e = .returned (.bool true) ∧ Below w.heap.size w w' := by
  have HC := Lib.hid hs
  clear hs
  have hn : n ≤ 140737488351232 := by have := HC.out.cap; omega
  go_enter Try.func4, Try.ntmps4
  go_wp2_with (fail)
  refine (head3_any _).mono ?_
  rintro e w1 ⟨rfl, hb1⟩
  have HG1 := Lib.hid (show Grows w w1 from hb1)
  clear hb1
  go_wp2_with (fail)
  refine (great_any A n c ls w1 (HC.out.grow HG1.out) hn).mono ?_
  rintro e w1' ⟨g, rfl, hsm, rfl⟩
  have HSM := Lib.hid hsm
  clear hsm
  rcases g with _ | _
  rotate_left 1
  · go_wp2_with (fail)
    go_ret
    exact ⟨rfl, HG1.out⟩
  have hsmall := HSM.out rfl
  have hbound := small_put hsmall
  have HS := Lib.hid hsmall
  clear hsmall HSM
  go_wp2_with (fail)
  refine (put_rows A n c ls w1 (HC.out.grow HG1.out) HS.out).mono ?_
  rintro e w2 ⟨OA, oc, IA, lc, hh, rfl, ho2, hi2, hly2, hb2⟩
  have g2 : Grows w1 w2 := hb2
  have hcount := itsL_count ls 0
  have HB2 := Lib.hid (Sl.owned ho2)
  have HI2 := Lib.hid (Items.owned hly2.1.symm rfl hi2 (hly2.grow g2).2)
  have HG2 := Lib.hid (Grows.trans HG1.out g2)
  clear ho2 hi2 hly2 hb2 g2
  have h3 := all_in OA (putL ls).length oc (putL ls) w2 HB2.out (by omega)
  rw [all_put0 ls] at h3
  dsimp only at h3
  have hfirst : (∀ t, (itsL ls 0)[0]? = some t → t.1 = 0) ∧ ((itsL ls 0).length = 0 → (putL ls).length = 0) := by
    rcases hi : itsL ls 0 with _ | ⟨u, r⟩
    · exact ⟨fun t h => by simp at h, fun _ => by rw [its_at.its_none ls 0 hi]; rfl⟩
    · exact ⟨fun t h => by simp at h; rw [← h]; exact its_at.its_first ls 0 u r hi, fun h => by simp at h⟩
  have hstep := fun (k : Nat) (t : It) (h : (itsL ls 0)[k]? = some t) => its_at ls 0 k t h
  have hnext := fun (k : Nat) (t : It) (h : (itsL ls 0)[k]? = some t) => next_at h
  have HF := Lib.hid hfirst
  have HST := Lib.hid hstep
  have HNA := Lib.hid hnext
  clear hfirst hstep hnext
  generalize hts : itsL ls 0 = ts at *
  generalize hbs : putL ls = bs at *
  have HEQ := Lib.hid (And.intro hts hbs)
  clear hts hbs
  have HH3 := Lib.hid h3
  clear h3
  go_wp2_with (fail)
  refine HH3.out.mono ?_
  rintro e w3 ⟨A3, c3, hh3, rfl, ho3, hbd3, hb3⟩
  have g3 : Grows w2 w3 := hb3
  have HI3 := Lib.hid (items_own rfl ho3 hbd3)
  have HG3 := Lib.hid (Grows.trans HG2.out g3)
  have HJ3 := Lib.hid (HI2.out.grow g3)
  have HB3 := Lib.hid (HB2.out.grow g3)
  have hts' : ts.length ≤ 140737488351232 := by omega
  clear ho3 hbd3 hb3 g3 HG2 HI2 HB2
  go_wp2_with (fail)
  go_loopw [10, 11] (fun a i wr => ∃ (p k : Nat), p ≤ bs.length ∧ k ≤ ts.length ∧ a = .int .i64 (p : Nat) ∧ i = .int .i64 (k : Nat) ∧ Hid ((∀ t, ts[k]? = some t → t.1 = p) ∧ (ts.length = k → p = bs.length)) ∧ Hid (Grows w3 wr)) (fun _ i _ => ts.length - (intOf i).toNat)
  case atStart => exact ⟨0, 0, by omega, by omega, rfl, rfl, Lib.hid ⟨HF.out.1, fun h => (HF.out.2 h).symm⟩, Lib.hid (Grows.refl _)⟩
  case round =>
    obtain ⟨p, k, hp, hk, rfl, rfl, HE, HGR⟩ := hrel
    by_cases hlt : k < ts.length
    · obtain ⟨LA, rfl⟩ : ∃ ad, IA = some ad := by
          obtain ⟨ad, _, _, _, h, _⟩ := HJ3.out.spot hlt
          exact ⟨ad, h⟩
      obtain ⟨t, ht⟩ : ∃ t, ts[k]? = some t := ⟨_, List.getElem?_eq_getElem hlt⟩
      have hpt := HE.out.1 t ht
      have hnx := next_any OA bs.length oc bs (p : Nat) wr (HB3.out.grow HGR.out) (by omega)
      have hni := nextI_in bs p hp
      have hna := HNA.out k t ht
      obtain ⟨more, -, -, -, -, hup, hmat⟩ := HST.out k t ht
      rw [hpt] at hna
      rw [hna] at hni
      have hnew : (∀ u, ts[k + 1]? = some u → u.1 = t.1 + t.2.1) ∧ (ts.length = k + 1 → t.1 + t.2.1 = bs.length) := by
        constructor
        · intro u hu
          rw [hu] at hmat
          exact hmat
        · intro h
          rw [List.getElem?_eq_none (by omega)] at hmat
          have := hmat.2
          omega
      obtain ⟨t0, t1, t2⟩ := t
      dsimp only at hpt hup hnew hni
      subst hpt
      have HD := Lib.hid hnew
      have HNI := Lib.hid hni
      have HT := Lib.hid ht
      have HNX := Lib.hid hnx
      have hqn : t0 + t1 ≤ bs.length := by omega
      have hlc := HJ3.out.cap
      have hlc' : (ts.length : Int) ≤ (lc : Int) := by omega
      have k0 : (0 : Int) ≤ (k : Int) := by omega
      have k1 : (k : Int) < (ts.length : Int) := by omega
      clear hnew hni ht hnx hup hmat hna
      go_wp2_with (fail)
      refine HNX.out.mono ?_
      rintro e w4 ⟨A4, m4, c4, x0, x1, e4, y4, n4, rfl, hs4, g4, he4⟩
      have hqq := HNI.out.symm.trans he4
      simp only [Prod.mk.injEq] at hqq
      obtain ⟨⟨rfl, rfl, rfl⟩, rfl, rfl⟩ := hqq
      have hw4 := Whole.made w4 29 #[.int .i64 (t0 : Nat), .int .i64 (t1 : Nat), .slice A4 m4 c4]
      have k4 := grows_alloc w4 (.cells #[.int .i64 (t0 : Nat), .int .i64 (t1 : Nat), .slice A4 m4 c4] 29)
      have HX := Lib.hid hw4
      have HS4 := Lib.hid (hs4.grow k4)
      have hone := (HJ3.out.grow (Grows.trans HGR.out (Grows.trans g4 k4))).one hlt HT.out
      have HONE := Lib.hid hone
      have HG4 := Lib.hid (Grows.trans HGR.out (Grows.trans g4 k4))
      have KW : Hid (IntKind.i64.wrap ((k : Int) + 1) = (k : Int) + 1) := Lib.hid (IntWalk.i64_in _ (by omega))
      have hck : ¬ lc = k := by omega
      have hck1 : (k : Int) + 1 ≤ (lc : Int) := by omega
      have hck2 : (0 : Int) ≤ (k : Int) + 1 := by omega
      have hck3 : (k : Int) ≤ (k : Int) + 1 := by omega
      clear hs4 g4 he4 hw4 k4 hone
      go_wp2_with (fail)
      refine wp_region_facts (E := Grows) [valFact (.int .i64 0), valFact (.bool false), valFact (.bool false), valFact (.agg #[.int .i64 (t0 : Nat), .int .i64 (t1 : Nat), .slice A4 m4 c4]), litFact 1 29 #[.int .i64 (t0 : Nat), .int .i64 (t1 : Nat), .slice A4 m4 c4], valFact (.slice (some LA) ts.length lc), valFact (.int .i64 (k : Int)), valFact (.int .i64 (k : Int)), valFact (.int .i64 ((k : Int) + 1)), valFact (.slice (some (LA.add (k * 3))) 1 (lc - k)), valFact (.bool true), valFact (.bool false), valFact (.bool false)] (by kernel_rfl) (by kernel_rfl) (fun _ _ _ => Grows.trans) (grows_drew _) ?_
      refine f_val (.int .i64 0) (by rfl) ?_ ?_
      · intro w' hC; clear hC; go_simp
      simp only [Act.put, List.setIfInBounds_toArray, List.set_cons_zero, List.set_cons_succ]
      refine f_val (.bool false) (by rfl) ?_ ?_
      · intro w' hC; clear hC; go_simp
      simp only [Act.put, List.setIfInBounds_toArray, List.set_cons_zero, List.set_cons_succ]
      refine f_val (.bool false) (by rfl) ?_ ?_
      · intro w' hC; clear hC; go_simp
      simp only [Act.put, List.setIfInBounds_toArray, List.set_cons_zero, List.set_cons_succ]
      refine f_val (.agg #[.int .i64 (t0 : Nat), .int .i64 (t1 : Nat), .slice A4 m4 c4]) (by rfl) ?_ ?_
      · intro w' hC; have hx := hC.whole HX.out; have c0 := hx.cell 0; have c1 := hx.cell 1; have c2 := hx.cell 2; simp only [List.getElem?_toArray, List.getElem?_cons_zero, List.getElem?_cons_succ] at c0 c1 c2; clear hx; clear hC; go_simp
      simp only [Act.put, List.setIfInBounds_toArray, List.set_cons_zero, List.set_cons_succ]
      refine f_lit 1 29 #[.int .i64 (t0 : Nat), .int .i64 (t1 : Nat), .slice A4 m4 c4] (by rfl) (by intro w' hC; clear hC; go_simp) ?_
      intro g1
      simp only [Act.put, List.setIfInBounds_toArray, List.set_cons_zero, List.set_cons_succ]
      refine f_val (.slice (some LA) ts.length lc) (by rfl) ?_ ?_
      · intro w' hC; clear hC; go_simp
      simp only [Act.put, List.setIfInBounds_toArray, List.set_cons_zero, List.set_cons_succ]
      refine f_val (.int .i64 (k : Int)) (by rfl) ?_ ?_
      · intro w' hC; clear hC; go_simp
      simp only [Act.put, List.setIfInBounds_toArray, List.set_cons_zero, List.set_cons_succ]
      refine f_val (.int .i64 (k : Int)) (by rfl) ?_ ?_
      · intro w' hC; clear hC; go_simp
      simp only [Act.put, List.setIfInBounds_toArray, List.set_cons_zero, List.set_cons_succ]
      refine f_val (.int .i64 ((k : Int) + 1)) (by rfl) ?_ ?_
      · intro w' hC; have kw := KW.out; clear hC; go_simp
      simp only [Act.put, List.setIfInBounds_toArray, List.set_cons_zero, List.set_cons_succ]
      refine f_val (.slice (some (LA.add (k * 3))) 1 (lc - k)) (by rfl) ?_ ?_
      · intro w' hC; clear hC; go_simp
      simp only [Act.put, List.setIfInBounds_toArray, List.set_cons_zero, List.set_cons_succ]
      refine f_call 14 #[.slice (some ⟨g1, 0, none⟩) 1 1, .slice (some (LA.add (k * 3))) 1 (lc - k)] (.bool true) (by rfl) (by intro w' hC; clear hC; go_simp) ?_ ?_
      · intro w' hC hk; have hsame := same_any (some ⟨g1, 0, none⟩) 1 1 [(t0, t1, t2)] (some (LA.add (k * 3))) 1 (lc - k) [(t0, t1, t2)] w' (item_one (Known.get hk 0 rfl (by rfl)) (HS4.out.grow hC)) ((HONE.out).grow hC) (by omega) (by omega); rw [decide_eq_true rfl] at hsame; exact hsame
      simp only [Act.put, List.setIfInBounds_toArray, List.set_cons_zero, List.set_cons_succ]
      refine f_val (.bool false) (by rfl) ?_ ?_
      · intro w' hC; clear hC; go_simp
      simp only [Act.put, List.setIfInBounds_toArray, List.set_cons_zero, List.set_cons_succ]
      refine f_val (.bool false) (by rfl) ?_ ?_
      · intro w' hC; clear hC; go_simp
      simp only [Act.put, List.setIfInBounds_toArray, List.set_cons_zero, List.set_cons_succ]
      intro w5 hC _
      have HCw5 := Lib.hid hC
      clear hC
      go_wp2_with (fail)
      go_roundw
      case rel => exact ⟨_, k + 1, hqn, by omega, rfl, by go_num, HD, Lib.hid (Grows.trans HG4.out HCw5.out)⟩
      case measure => simp [intOf]; omega
    · obtain rfl : k = ts.length := by omega
      have hpp := HE.out.2 rfl
      subst hpp
      have HP := Lib.hid (Grows.trans HG3.out HGR.out)
      go_wp2_with (fail)
      have hsame := same_any A3 ts.length c3 ts IA ts.length lc ts _ (HI3.out.grow HGR.out) (HJ3.out.grow HGR.out) hts' hts'
      rw [decide_eq_true rfl] at hsame
      refine hsame.mono ?_
      clear hsame
      rintro e w6 ⟨rfl, hb6⟩
      have HG6 := Lib.hid (Grows.trans HP.out (show Grows wr w6 from hb6))
      clear hb6
      go_wp2_with (fail)
      go_ret
      exact ⟨rfl, HG6.out⟩

set_option maxRecDepth 100000 in
theorem scanAll_lifted (os : Os) (started : os.Started) (H : Type) (enc : TypeId × Value → H) :
    ReturnsInHanded {} Try.checked os 4 .any (Rows.scanAllSpec.pre6 enc Try.prog Try.f4 Rows.scanAllRow.domain false) (Rows.scanAllSpec.post enc Try.prog Try.f4 false true false false) := by
  refine lift_law (C := Try.checked) H enc own started (by kernel_rfl) Try.func4
    (ChangeSpec.witness6 (enc := enc) (C := Try.checked) false ⟨#[], #[.slice none 0 0], []⟩ 16 (by kernel_rfl) (by kernel_rfl) (by kernel_rfl) (by kernel_rfl))
    laidOut (of_readable (by kernel_rfl)) rfl Try.underlying4 rfl (fun ds hd => ?_) (fun W base args ds p hval hA hsz => ?_)
  · match ds, hd with
    | [d1], _ => rfl
  · rw [Try.params4] at hA hval hsz
    obtain ⟨v0, vs0, d0, ds0, p0, q0, hargs, rfl, rfl, h0, r0⟩ := trodAll_cons hA
    obtain ⟨rfl, rfl, rfl⟩ := trodAll_nil r0
    obtain rfl : args = #[v0] := by cases args; simp_all
    obtain ⟨A0, n0, c0, xs0, rfl, hx0, hc0⟩ := open_rows Try.underlying34 Try.underlying22 Try.underlying5 (by kernel_rfl) (by kernel_rfl) (by kernel_rfl) (hval 0 34 v0 rfl rfl) h0 hsz (j := 0) rfl rfl
    exact all_law A0 n0 c0 xs0 hx0 hc0

theorem scanAll_over : Rows.scanAllRow.holds Try.pinned (OpenSpec.ofChange Rows.scanAllSpec) :=
  OpenClaim.holds_of_wide 4 Try.f4 rfl rfl rfl rfl rfl rfl rfl ⟨rfl, rfl, rfl, rfl, rfl⟩ rfl rfl rfl rfl rfl (by kernel_rfl) Try.func4 (by kernel_rfl)
    (of_decide_eq_true (by kernel_rfl)) (by unfold Func.isWrapper; first | (rw [if_pos (by decide +kernel)]; kernel_rfl) | (rw [if_neg (by decide +kernel)]; exact ⟨rfl, rfl⟩))
    (fun os started H enc _ => scanAll_lifted os started H enc)
theorem scanAll_holds : Rows.ScanAllSaid := scanAll_over
end Go.Proofs.Ytchndjebgpibjaa
