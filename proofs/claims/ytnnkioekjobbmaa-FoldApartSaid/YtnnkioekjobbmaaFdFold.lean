/-
  Fold.
-/
import Derived.Test.YtnnkioekjobbmaaFdLasts
import Derived.Test.YtnnkioekjobbmaaFdRises
import Derived.Test.YtnnkioekjobbmaaFdPl
import Derived.Test.YtnnkioekjobbmaaRound
import Derived.RangeFuncNested
import Derived.RangeFuncLeaves
import Derived.Shelf.Abstract
namespace Go.Proofs.Ytnnkioekjobbmaa
open Go.RowKit Go.Shelf
set_option linter.unusedVariables false
set_option linter.unusedSimpArgs false
attribute [local go_sem] Oper.semAt_some
attribute [local irreducible] wpF

section
variable {own : Nat → Prop} {P : Program} {ops : Array Oper} {W : World} {Q : Act → World → Prop} {o : Oper} {rest : List Oper} {js : List (Job Grows (Spares own))} {ks : Known} {C : World → Prop} {a : Act}
/-- An operation that writes, and looks at what is known. -/
theorem j_clsF {α : Type} {x0 : α} {val : α → Value} {C' : α → World → Prop} {hC' : ∀ x w w', C' x w → Grows w w' → C' x w'} (hw : Region.wanted o (yielded ops a.tmps) = true)
    (h1 : ∀ w, Spares own W w → C w → ks.for (o.looksAt ops) w → ∃ x w', (execOp a.eval o).run P w = .ok (.value (val x)) w' ∧ Spares own w w' ∧ C' x w') (h2 : ∀ x, wpJ P ops W Q rest js ks (C' x) (a.put o.dst (val x))) :
    wpJ P ops W Q (o :: rest) (clsJob own α x0 val C' hC' :: js) ks C a := by
  unfold wpJ jStep
  rw [if_pos hw]
  refine ⟨fun w hW hk hC => ?_, fun x => wpJ_more _ _ ks _ _ _ (fun k hk => List.mem_cons_of_mem _ hk) (h2 x)⟩
  obtain ⟨x, w', hr, hs, hc⟩ := h1 w hW (hC rfl) hk
  rw [hr]
  exact ⟨x, rfl, trivial, fun _ => ⟨hs, hc⟩, fun h => by cases h⟩
end
def segF (segs : List Int) (p : Nat × Ht) : Fp := (segs.getD p.1 0, p.2)
/-- What Fold is to answer. -/
def okFold (segs : List Int) (ls : List (List Ht)) : Bool := decide (segs.length = ls.length) && ls.all upB
def foldAll (segs : List Int) (ls : List (List Ht)) : List Fp := if okFold segs ls then (foldP ls).map (segF segs) else []
/-- What Fold has between two rounds. -/
structure FoldHas (w : World) (sb ab NB : Nat) (segs : List Int) (SA : Option Addr) (sn sc : Nat) (pre : List (Nat × Ht)) (R : Nat → Prop) (W : World) : Prop where
  list : ∃ A c, Boxed W ab 26 (.slice A pre.length c) ∧ OwnPl W NB A pre.length c (pre.map (segF segs)) ∧ ∀ k, R k ↔ k = ab ∨ (Value.slice A pre.length c).ownBlock = some k
  sbox : Boxed W sb 22 (.slice SA sn sc)
  apart : w.heap.size ≤ sb ∧ sb < ab ∧ ab < NB
  big : NB ≤ W.heap.size
  few : pre.length ≤ 100000
  low : Grows w W
theorem FoldHas.lt {w : World} {sb ab NB : Nat} {segs : List Int} {SA : Option Addr} {sn sc : Nat} {pre : List (Nat × Ht)} {R : Nat → Prop} {W : World} (h : FoldHas w sb ab NB segs SA sn sc pre R W) : ∀ k, R k → (k = ab ∨ NB ≤ k) ∧ k < W.heap.size := by
  obtain ⟨A, c, h1, h2, h3⟩ := h.list
  intro k hk
  rcases (h3 k).1 hk with rfl | hk
  · exact ⟨.inl rfl, h1.lt⟩
  · exact ⟨.inr (owned_lt3 h2 hk).1, (owned_lt3 h2 hk).2⟩
theorem FoldHas.keep {w : World} {sb ab NB : Nat} {segs : List Int} {SA : Option Addr} {sn sc : Nat} {pre : List (Nat × Ht)} {R : Nat → Prop} {W W' : World} (h : FoldHas w sb ab NB segs SA sn sc pre R W) (hs : OffR NB R W W') : FoldHas w sb ab NB segs SA sn sc pre R W' := by
  obtain ⟨A, c, h1, h2, h3⟩ := h.list
  have ha := h.apart
  refine ⟨⟨A, c, (Spares.same hs _ h1.lt fun h => h.2 ((h3 _).2 (.inl rfl))).trans h1, owned_same3 h2 fun k hk => Spares.same hs k (owned_lt3 h2 hk).2 fun h => h.2 ((h3 k).2 (.inr hk)), h3⟩, (Spares.same hs _ h.sbox.lt fun h => by omega).trans h.sbox, ha, Nat.le_trans h.big hs.size, h.few, Below.trans h.low ?_⟩
  exact ⟨hs.os, hs.tape, hs.output, hs.size, fun k hk => Spares.same hs k (Nat.lt_of_lt_of_le hk h.low.size) fun h => by omega⟩
set_option maxRecDepth 100000 in
set_option maxHeartbeats 8000000 in
theorem fold_any (SA : Option Addr) (sn sc : Nat) (segs : List Int) (A : Option Addr) (N c : Nat) (sl : List Sl3) (ls : List (List Ht)) (w : World) (hsg : Ins w SA sn sc segs) (hx : Lls w A N c sl ls) (hN : N ≤ 1000) (hmany : manyL ls ≤ 100000) :
    Calls Try.prog 10 #[.slice SA sn sc, .slice A N c] w fun e w' => ∃ A' n' c', e = .returned (.tuple #[.slice A' n' c', .bool (okFold segs ls)]) ∧ OwnPl w' w.heap.size A' n' c' (foldAll segs ls) ∧ Grows w w' := by
  obtain ⟨r, hr⟩ : ∃ r, okFold segs ls = r := ⟨_, rfl⟩
  obtain ⟨L, hL⟩ : ∃ L, foldAll segs ls = L := ⟨_, rfl⟩
  rw [hr, hL]
  have HRL := Lib.hid (And.intro hr hL)
  have hg1 := grows_alloc w (.cells #[.slice SA sn sc] 22)
  have hs1 := Boxed.new w 22 (.slice SA sn sc)
  obtain ⟨W1, hW1⟩ : ∃ V, w.alloc (.cells #[.slice SA sn sc] 22) = V := ⟨_, rfl⟩
  rw [hW1] at hg1 hs1
  have hz1 : W1.heap.size = w.heap.size + 1 := by rw [← hW1, World.size_alloc]
  obtain ⟨sb, hsb⟩ : ∃ b, w.heap.size = b := ⟨_, rfl⟩
  rw [hsb] at hs1
  have cs := hs1.cell
  have HX := Lib.hid (And.intro hsg (And.intro hx (And.intro hN hmany)))
  have H1 := Lib.hid (And.intro hg1 (And.intro hs1 (And.intro hz1 hsb)))
  have HLN := Lib.hid (And.intro hsg.len hx.len)
  have hNN : N ≤ 1000 := hN
  clear hr hL hsg hx hN hmany hg1 hs1 hz1
  refine (callsIn_wide (n := 3)).1 ?_
  refine callsIn_of_wp_marks Try.func10 rfl trivial ?_ rfl
  simp only [Try.ntmps10, List.size_toArray, List.length_cons, List.length_nil, Nat.reduceAdd, Nat.reduceSub, Array.replicate_succ, Array.replicate_zero, List.push_toArray, List.append_toArray, List.nil_append, List.cons_append]
  by_cases hne : sn = N
  · subst hne
    gi_wp2_with (first | rw [hW1] | fail)
    clear hW1 cs
    gi_loopw [7, 18] (fun _ vi wr => ∃ (j : Nat), j ≤ sn ∧ vi = .int .i64 (j : Int) ∧ Hid (∀ i l, i < j → ls[i]? = some l → upB l = true) ∧ Hid (Grows W1 wr)) (fun _ vi _ => sn - (intOf vi).toNat)
    case atStart => exact ⟨0, Nat.zero_le _, rfl, Lib.hid fun i l h => by omega, Lib.hid (Grows.refl _)⟩
    case round =>
      obtain ⟨j, hj, rfl, HJ, HG⟩ := hrel
      by_cases hlt : j < sn
      · obtain ⟨ad, B, k, q, li, rfl, hli, hts, hbl, hcell⟩ := HX.out.2.1.at hlt
        have c0 := hcell wr (Grows.trans H1.out.1 HG.out)
        have k0 : (0 : Int) ≤ (j : Int) := by omega
        have k1 : (j : Int) < (sn : Int) := by omega
        obtain ⟨u, hu⟩ : ∃ b, upB li = b := ⟨_, rfl⟩
        have HRI := Lib.hid (show Calls Try.prog 18 #[.slice B k q] wr fun e w' => e = .returned (.bool u) ∧ Grows wr w' from by
          have h1 := rises_any B k q li wr (hts.grow (Grows.trans H1.out.1 HG.out)) (by have := hts.len; have := manyL_mem hli; have := HX.out.2.2.2; omega)
          rwa [hu] at h1)
        have HU := Lib.hid (And.intro hli hu)
        clear hcell hts hbl hli hu
        gi_wp2_with (fail)
        refine ⟨trivial, (callsIn_wide.2 HRI.out).mono ?_⟩
        rintro e w2 ⟨rfl, hg2⟩
        have HG2 := Lib.hid (Grows.trans HG.out hg2)
        clear hg2 HRI
        cases u
        · gi_wp2_with (fail)
          have hf : okFold segs ls = false := by
            unfold okFold
            have : ls.all upB = false := by
              rw [List.all_eq_false]
              exact ⟨li, List.mem_of_getElem? HU.out.1, by rw [HU.out.2]; simp⟩
            rw [this, Bool.and_false]
          refine ⟨.tuple #[.slice none 0 0, .bool false], by simp [results, Try.results10, go_sem], ?_⟩
          refine ⟨none, 0, 0, ?_, ?_, Grows.trans H1.out.1 HG2.out⟩
          · rw [← HRL.out.1, hf]
          · rw [← HRL.out.2]
            unfold foldAll
            rw [hf]
            exact ownPl_nil _ _
        · gi_wp2_with (fail)
          go_roundw
          case rel => exact ⟨j + 1, by omega, by first | rfl | go_num, Lib.hid fun i l hi hl => by
            by_cases e : i = j
            · subst e
              have := HU.out.1
              rw [hl] at this
              injection this with this
              rw [this]
              exact HU.out.2
            · exact HJ.out i l (by omega) hl, HG2⟩
          case measure => simp [intOf]; omega
      · obtain rfl : sn = j := by omega
        have hok : okFold segs ls = true := by
          unfold okFold
          rw [Bool.and_eq_true, decide_eq_true_eq, List.all_eq_true]
          exact ⟨HLN.out.1.trans HLN.out.2.symm, fun l hl => by
            obtain ⟨i, hi, rfl⟩ := List.mem_iff_getElem.1 hl
            exact HJ.out i _ (by have := HLN.out.2; omega) (List.getElem?_eq_getElem hi)⟩
        have HOK := Lib.hid (show r = true ∧ L = (foldP ls).map (segF segs) ∧ ∀ l ∈ ls, Rising l from by
          refine ⟨HRL.out.1.symm.trans hok, ?_, fun l hl => ?_⟩
          · rw [← HRL.out.2]
            unfold foldAll
            rw [hok, if_pos rfl]
          · unfold okFold at hok
            rw [Bool.and_eq_true, List.all_eq_true] at hok
            exact (upB_rising l).1 (hok.2 l hl))
        have hg2 := grows_alloc wr (.cells #[.slice none 0 0] 26)
        have hb2 := Boxed.new wr 26 (.slice none 0 0)
        obtain ⟨V1, hV1⟩ : ∃ V, wr.alloc (.cells #[.slice none 0 0] 26) = V := ⟨_, rfl⟩
        rw [hV1] at hg2 hb2
        have hz2 : V1.heap.size = wr.heap.size + 1 := by rw [← hV1, World.size_alloc]
        obtain ⟨ab, hab⟩ : ∃ b, wr.heap.size = b := ⟨_, rfl⟩
        rw [hab] at hb2
        have HLA := Lib.hid (lasts_any A sn c V1)
        have H2 := Lib.hid (And.intro hg2 (And.intro hb2 (And.intro hz2 hab)))
        clear hok hg2 hb2 hz2 hlt hj
        gi_wp2_with (first | rw [hV1] | fail)
        clear hV1
        refine ⟨trivial, (callsIn_wide.2 HLA.out).mono ?_⟩
        rintro e w2 ⟨rfl, hw2⟩
        have hg3 : Grows V1 w2 := hw2 ▸ grows_alloc _ _
        have hb3 : Boxed w2 V1.heap.size 23 (.slice A sn c) := by rw [← hw2]; exact Boxed.new _ _ _
        have hz3 : w2.heap.size = V1.heap.size + 1 := by rw [← hw2, World.size_alloc]
        obtain ⟨tb, htb⟩ : ∃ b, V1.heap.size = b := ⟨_, rfl⟩
        rw [htb] at hb3
        have HA := Lib.hid (show FoldHas w sb ab w2.heap.size segs SA sn sc [] (fun k => k = ab) w2 ∧ Boxed w2 tb 23 (.slice A sn c) ∧ Grows w w2 ∧ tb = ab + 1 ∧ w2.heap.size = tb + 1 ∧ w.heap.size ≤ ab from by
          obtain ⟨g1, s1, z1, e1⟩ := H1.out
          obtain ⟨g2, b2, z2, e2⟩ := H2.out
          have hgr := HG.out.size
          have gw : Grows w w2 := Grows.trans (Grows.trans g1 HG.out) (Grows.trans g2 hg3)
          exact ⟨⟨⟨none, 0, (hg3.block _ b2.lt).trans b2, ownPl_nil _ _, fun k => ⟨.inl, fun h => h.elim id fun h => by cases h⟩⟩, ((Grows.trans (Grows.trans HG.out g2) hg3).block _ s1.lt).trans s1, ⟨by omega, by omega, by omega⟩, Nat.le_refl _, Nat.zero_le _, gw⟩, hb3, gw, by omega, by omega, by omega⟩)
        have hGV := lasts_gives 2 w tb A sn c sl ls w2 HA.out.2.1 HA.out.2.2.1 HX.out.2.1 HOK.out.2.2 HX.out.2.2.1 HX.out.2.2.2
        have HGV := Lib.hid hGV
        clear hg3 hb3 hz3 hw2 hGV
        gi_wp2_with (fail)
        refine range_lawR (gf := 21) (lb := #[.pointer (some ⟨tb, 0, none⟩)]) rfl (enters_of Try.func21 (by kernel_rfl) rfl) HGV.out (fun _ => rfl) (fun k => k = ab) ?dead (FoldHas w sb ab w2.heap.size segs SA sn sc) (fun _ _ _ => False) (fun s R A' h k hk => (h.lt k hk).2)
          (fun s R A' B' h hs => h.keep hs) (fun _ _ _ _ h _ => h) HA.out.1 ?round ?done (fun _ _ _ _ _ _ h _ => h.elim)
        case dead => exact fun k hk => ⟨by have := HA.out; omega, fun e => by have := HA.out; omega⟩
        case round =>
          rintro l pre R ⟨i, ⟨q0, q1, q2, q3⟩⟩ W hsz hi hgd
          dsimp only [htV]
          gi_wp2_with (fail)
          obtain ⟨Wa, hWa⟩ : ∃ Wa, W.alloc (.cells #[.int .i64 q0, .string ⟨q1.toArray⟩, .int .i64 q2, .int .i64 q3] 33) = Wa := ⟨_, rfl⟩
          rw [hWa]
          have ga : Grows W Wa := hWa ▸ grows_alloc _ _
          have sa : Wa.heap.size = W.heap.size + 1 := by rw [← hWa, World.size_alloc]
          have hv : Whole Wa W.heap.size 33 #[.int .i64 q0, .string ⟨q1.toArray⟩, .int .i64 q2, .int .i64 q3] := by rw [← hWa]; exact Whole.made _ _ _
          refine ⟨ga, fun Wb hsp hib => ?_⟩
          have hvb : Whole Wb W.heap.size 33 #[.int .i64 q0, .string ⟨q1.toArray⟩, .int .i64 q2, .int .i64 q3] := (hsp.same _ hv.lt (by omega)).trans hv
          have hlt := hi.lt
          obtain ⟨hb, hhb⟩ : ∃ b, W.heap.size = b := ⟨_, rfl⟩
          rw [hhb] at hvb
          obtain ⟨⟨AP, pc, hbx, ho, hR⟩, hsx, hap, hbig, hfew, hlow⟩ := hib
          obtain ⟨lp, hlp⟩ : ∃ q, pre.map (segF segs) = q := ⟨_, rfl⟩
          rw [hlp] at ho
          obtain ⟨pn, hpn⟩ : ∃ k, pre.length = k := ⟨_, rfl⟩
          rw [hpn] at hbx ho hR hfew
          obtain ⟨hg1, hg2⟩ := hgd
          obtain ⟨ss, sv, rfl, hsv1, hsv2, hsv3⟩ := HX.out.1.at hg2
          have HSG := Lib.hid (show segF segs (i, ⟨q0, q1, q2, q3⟩) = (sv, ⟨q0, q1, q2, q3⟩) from by unfold segF; dsimp only; rw [List.getD_eq_getElem?_getD, hsv1]; rfl)
          have hob : ∀ k, (Value.slice AP pn pc).ownBlock = some k → w2.heap.size ≤ k ∧ k < W.heap.size := fun k hk => ⟨(owned_lt3 ho hk).1, (hlt k ((hR k).2 (.inr hk))).2⟩
          have HB := Lib.hid (show Boxed Wb ab 26 (.slice AP pn pc) ∧ Boxed Wb sb 22 (.slice (some ss) sn sc) ∧ Whole Wb hb 33 #[.int .i64 q0, .string ⟨q1.toArray⟩, .int .i64 q2, .int .i64 q3] ∧ (¬ (Value.slice AP pn pc).ownBlock = some ab) ∧ (¬ (Value.slice AP pn pc).ownBlock = some sb) ∧ ¬ (Value.slice AP pn pc).ownBlock = some hb from
            ⟨hbx, hsx, hvb, fun e => by have := hob _ e; omega, fun e => by have := hob _ e; omega, fun e => by have := hob _ e; omega⟩)
          have k0 : (0 : Int) ≤ (i : Int) := by omega
          have k1 : (i : Int) < (sn : Int) := by omega
          have HI := Lib.hid (And.intro k0 k1)
          have HSV := Lib.hid (show ∀ w', Spares (fun k => (Value.slice AP pn pc).ownBlock = some k) Wb w' → w'.cell? (ss.add i) = some (.int .i64 sv) from fun w' hC => hsv3 w' (((Spares.grows (own := fun k => (Value.slice AP pn pc).ownBlock = some k) hlow).trans hC).below (Nat.le_refl _) fun k hk e => by have := hob k e; omega))
          have HOW := Lib.hid ho
          have HLT := Lib.hid (show pn < 1000000 ∧ w2.heap.size ≤ Wb.heap.size from ⟨by omega, hbig⟩)
          have HZ := Lib.hid (show (∀ k, R k ↔ k = ab ∨ (Value.slice AP pn pc).ownBlock = some k) ∧ (w.heap.size ≤ sb ∧ sb < ab ∧ ab < w2.heap.size) ∧ pn < 100000 ∧ Grows w Wb ∧ (∀ k, R k → k < W.heap.size) ∧ W.heap.size ≤ Wb.heap.size ∧ W.heap.size = hb ∧ pre.map (segF segs) = lp ∧ pre.length = pn ∧ lp.length = pn from
            ⟨hR, hap, by omega, hlow, fun k hk => (hlt k hk).2, by have := hsp.size; omega, hhb, hlp, hpn, ho.len⟩)
          clear hvb hlt hbx ho hR hsx hap hbig hfew hlow hlp hpn hg1 hg2 hsv1 hsv2 hsv3 hob hsp hi ga sa hv hWa
          gi_wp2_with (fail)
          refine wpIn_round_jobs (G := Grows) (E := Spares (fun k => (Value.slice AP pn pc).ownBlock = some k)) 9 [valJob (fun k => (Value.slice AP pn pc).ownBlock = some k) (.slice AP pn pc), valJob (fun k => (Value.slice AP pn pc).ownBlock = some k) (.slice (some ss) sn sc), valJob (fun k => (Value.slice AP pn pc).ownBlock = some k) (.int .i64 (i : Int)), valJob (fun k => (Value.slice AP pn pc).ownBlock = some k) (.pointer (some (ss.add i))), valJob (fun k => (Value.slice AP pn pc).ownBlock = some k) (.int .i64 sv), valJob (fun k => (Value.slice AP pn pc).ownBlock = some k) (.agg #[.int .i64 q0, .string ⟨q1.toArray⟩, .int .i64 q2, .int .i64 q3]), valJob (fun k => (Value.slice AP pn pc).ownBlock = some k) (.agg #[.int .i64 sv, .int .i64 q0, .string ⟨q1.toArray⟩, .int .i64 q2, .int .i64 q3]), blkJob (fun k => (Value.slice AP pn pc).ownBlock = some k) (35) (#[.int .i64 sv, .int .i64 q0, .string ⟨q1.toArray⟩, .int .i64 q2, .int .i64 q3]) 1, clsJob (fun k => (Value.slice AP pn pc).ownBlock = some k) (Option Addr × Nat) (none, 0) (fun p => .slice p.1 (pn + 1) p.2) (fun p w' => OwnPl w' w2.heap.size p.1 (pn + 1) p.2 (lp ++ [(sv, ⟨q0, q1, q2, q3⟩)]) ∧ ((Value.slice p.1 (pn + 1) p.2).ownBlock = (Value.slice AP pn pc).ownBlock ∨ ∃ g, (Value.slice p.1 (pn + 1) p.2).ownBlock = some g ∧ Wb.heap.size ≤ g)) (fun _ _ _ h hg => ⟨owned_grow h.1 hg, h.2⟩)] [(false, false), (false, false), (false, false), (false, false), (false, false), (false, false), (false, false), (false, false), (true, true)] (fun w' => OwnPl w' w2.heap.size AP pn pc lp) rfl mixed (by kernel_rfl) (by kernel_rfl) (fun _ _ => Spares.grows) (fun _ _ _ => Spares.trans) (spares_drew _ _) (owned_grow HOW.out (grows_drew Wb)) (fun _ _ h hg => owned_grow h hg) ?_
          simp only [List.take_succ_cons, List.take_zero, List.drop_succ_cons, List.drop_zero]
          refine j_val (.slice AP pn pc) (by rfl) ?_ ?_
          · intro w' hC; have z0 := Boxed.cell ((hC.same ab HB.out.1.lt HB.out.2.2.2.1).trans HB.out.1); clear hC; go_simp
          simp only [Act.put, List.setIfInBounds_toArray, List.set_cons_zero, List.set_cons_succ]
          refine j_val (.slice (some ss) sn sc) (by rfl) ?_ ?_
          · intro w' hC; have z0 := Boxed.cell ((hC.same sb HB.out.2.1.lt HB.out.2.2.2.2.1).trans HB.out.2.1); clear hC; go_simp
          simp only [Act.put, List.setIfInBounds_toArray, List.set_cons_zero, List.set_cons_succ]
          refine j_val (.int .i64 (i : Int)) (by rfl) ?_ ?_
          · intro w' hC; clear hC; go_simp
          simp only [Act.put, List.setIfInBounds_toArray, List.set_cons_zero, List.set_cons_succ]
          refine j_val (.pointer (some (ss.add i))) (by rfl) ?_ ?_
          · intro w' hC; have k0 := HI.out; clear hC; go_simp
          simp only [Act.put, List.setIfInBounds_toArray, List.set_cons_zero, List.set_cons_succ]
          refine j_val (.int .i64 sv) (by rfl) ?_ ?_
          · intro w' hC; have z0 := HSV.out w' hC; clear hC; go_simp
          simp only [Act.put, List.setIfInBounds_toArray, List.set_cons_zero, List.set_cons_succ]
          refine j_val (.agg #[.int .i64 q0, .string ⟨q1.toArray⟩, .int .i64 q2, .int .i64 q3]) (by rfl) ?_ ?_
          · intro w' hC; have qq := (hC.same hb HB.out.2.2.1.lt HB.out.2.2.2.2.2).trans HB.out.2.2.1; have z0 := Whole.cell qq 0; have z1 := Whole.cell qq 1; have z2 := Whole.cell qq 2; have z3 := Whole.cell qq 3; clear qq; simp only [List.getElem?_toArray, List.getElem?_cons_zero, List.getElem?_cons_succ] at z0 z1 z2 z3; clear hC; go_simp
          simp only [Act.put, List.setIfInBounds_toArray, List.set_cons_zero, List.set_cons_succ]
          refine j_val (.agg #[.int .i64 sv, .int .i64 q0, .string ⟨q1.toArray⟩, .int .i64 q2, .int .i64 q3]) (by rfl) ?_ ?_
          · intro w' hC; clear hC; go_simp
          simp only [Act.put, List.setIfInBounds_toArray, List.set_cons_zero, List.set_cons_succ]
          refine j_made (35) (#[.int .i64 sv, .int .i64 q0, .string ⟨q1.toArray⟩, .int .i64 q2, .int .i64 q3]) 1 (fun k e => (owned_lt3 HOW.out e).2) (by rfl) ?_ ?_
          · intro w' hC; clear hC; go_simp
          intro g1
          simp only [Act.put, List.setIfInBounds_toArray, List.set_cons_zero, List.set_cons_succ]
          refine j_clsF (by rfl) (fun w' hC hcls hks => ?_) ?_
          · obtain ⟨A', c', wz, hr, ho2, hg2, hd2⟩ := app_pl hcls (sv, ⟨q0, q1, q2, q3⟩) (Known.get hks 0 rfl rfl).1 rfl HLT.out.1 (Nat.le_trans HLT.out.2 hC.size)
            exact ⟨(A', c'), wz, exec_appF rfl rfl rfl hr, (Spares.refl _ _).grown hg2 (fun k e => e), ho2, hd2.elim .inl fun e => .inr ⟨_, e, hC.size⟩⟩
          rintro ⟨A5, c5⟩
          simp only [Act.put, List.setIfInBounds_toArray, List.set_cons_zero, List.set_cons_succ]
          refine wpJ_end ?_
          intro w3 hC hks hcls
          have HC3 := Lib.hid hC
          have HL3 := Lib.hid hcls
          clear hC hks hcls
          have hbw := (HC3.out.same ab HB.out.1.lt HB.out.2.2.2.1).trans HB.out.1
          have z0 := Boxed.cell hbw
          have z1 : w3.frozen? ⟨ab, 0, none⟩ = false := Whole.free (show Whole w3 ab 26 #[_] from hbw) 0
          have HBW := Lib.hid (show Whole w3 ab 26 #[.slice AP pn pc] from hbw)
          clear hbw
          gi_wp2_with (fail)
          obtain ⟨hR, hap, hfew, hlow, hRl, hWW, hhb, hlp, hpn, hll⟩ := HZ.out
          obtain ⟨hown1, hdj⟩ := HL3.out
          obtain ⟨Y, hY⟩ : ∃ Y, w3.setCell ⟨ab, 0, none⟩ (.slice A5 (pn + 1) c5) = Y := ⟨_, rfl⟩
          rw [hY]
          have hR0 : R ab := (hR _).2 (.inl rfl)
          have hsY2 : Spares (fun k => R k ∨ W.heap.size ≤ k) Wb Y := by
            rw [← hY]
            exact (HC3.out.wider fun k _ hk => .inl ((hR k).2 (.inr hk))).setCell (.inl hR0) _
          have hsub : ∀ k, (k = ab ∨ (Value.slice A5 (pn + 1) c5).ownBlock = some k) → R k ∨ W.heap.size ≤ k := fun k hk => by
            rcases hk with rfl | hk
            · exact .inl hR0
            · rcases hdj with h | ⟨g, h, hg⟩
              · exact .inl ((hR k).2 (.inr (h ▸ hk)))
              · rw [h] at hk
                injection hk with hk
                right; omega
          have hpl : (pre ++ [(i, (⟨q0, q1, q2, q3⟩ : Ht))]).length = pn + 1 := by rw [List.length_append, hpn]; rfl
          refine ⟨fun k => k = ab ∨ (Value.slice A5 (pn + 1) c5).ownBlock = some k, hsub, hsY2, ⟨A5, c5, ?_, ?_, ?_⟩, ?_, hap, ?_, ?_, ?_⟩
          · rw [hpl, ← hY]
            exact Whole.put HBW.out 0 _
          · rw [hpl, List.map_append, hlp, List.map_cons, List.map_nil, HSG.out, ← hY]
            refine owned_same3 hown1 fun k hk => Below.heap_setCell _ _ _ _ ?_
            have := (owned_lt3 hown1 hk).1
            dsimp only
            omega
          · intro k
            rw [hpl]
          · exact (hsY2.same sb HB.out.2.1.lt fun h => by
              rcases h with h | h
              · rcases (hR sb).1 h with h | h
                · omega
                · exact HB.out.2.2.2.2.1 h
              · have := HLT.out.2; have := HA.out; omega).trans HB.out.2.1
          · exact Nat.le_trans HLT.out.2 hsY2.size
          · rw [hpl]; omega
          · exact Below.trans hlow ⟨hsY2.os, hsY2.tape, hsY2.output, hsY2.size, fun k hk => hsY2.same k (Nat.lt_of_lt_of_le hk hlow.size) fun h => by
              rcases h with h | h
              · rcases (hR k).1 h with h | h
                · omega
                · have := (owned_lt3 HOW.out h).1; have := HA.out; omega
              · have := HA.out; omega⟩
        case done =>
          intro D xs R W hD hnD hS hi hK
          obtain ⟨⟨AP, pc, hbx, ho, hR⟩, hsx, hap, hbig, hfew, hlow⟩ := hi
          have c1 := hbx.cell
          have HQ := Lib.hid (And.intro ho (And.intro hR (And.intro hlow (And.intro hK (And.intro hD (And.intro hnD hS))))))
          clear hbx ho hR hsx hap hbig hfew hlow hK hD hnD hS
          gi_wp2_with (fail)
          obtain ⟨ho, hR, hlow, hK, hD, hnD, hS⟩ := HQ.out
          have hDs : Spares (fun k => k = D) W (W.putObj D (.deferred none)) := ⟨rfl, rfl, rfl, by simp, fun k _ hk => World.putObj_heap_other hk⟩
          refine ⟨by simp, .inl ⟨_, _, rfl, run_takeDeferred hK, ?_⟩⟩
          refine ⟨.tuple #[.slice AP xs.length pc, .bool true], by simp [results, Try.results10, go_sem], AP, xs.length, pc, by rw [HOK.out.1], ?_, ?_⟩
          · rw [HOK.out.2.1, ← hS]
            exact owned_from (owned_same3 ho fun k hk => hDs.same k (owned_lt3 ho hk).2 fun e => hnD ((hR D).2 (.inr (e ▸ hk)))) (by have := HA.out; omega)
          · exact ⟨hlow.os, hlow.tape, hlow.output, Nat.le_trans hlow.size hDs.size, fun k hk => (hDs.same k (Nat.lt_of_lt_of_le hk hlow.size) fun e => by have := HA.out; omega).trans (hlow.block k hk)⟩
  · have hok : okFold segs ls = false := by
      unfold okFold
      rw [decide_eq_false (by have := HLN.out; omega), Bool.false_and]
    have HF := Lib.hid (show r = false ∧ L = [] from ⟨HRL.out.1.symm.trans hok, by rw [← HRL.out.2]; unfold foldAll; rw [hok]; rfl⟩)
    clear hok
    gi_wp2_with (first | rw [hW1] | fail)
    refine ⟨.tuple #[.slice none 0 0, .bool false], by simp [results, Try.results10, go_sem], ?_⟩
    refine ⟨none, 0, 0, by rw [HF.out.1], by rw [HF.out.2]; exact ownPl_nil _ _, H1.out.1⟩
end Go.Proofs.Ytnnkioekjobbmaa
