/-
  The walk of hint's Get.
-/
import Derived.Test.YtdjlhdeejpndcaaMHb
import Derived.Test.YtdjlhdeejpndcaaAll
namespace Go.Proofs.Ytdjlhdeejpndcaa
open Go.RowKit
set_option linter.unusedSimpArgs false
set_option linter.unusedVariables false
attribute [local irreducible] wpF

/-- A block laid in a region that draws its order. -/
def ptrFact (W : World) (t : TypeId) (cs : Array Value) : Fact Grows := ⟨Nat, 0, fun g => .pointer (some ⟨g, 0, none⟩), fun g w => W.heap.size ≤ g ∧ Whole w g t cs, fun _ _ _ h g => ⟨h.1, Grows.whole g h.2⟩⟩
/-- Hints that a call hands back. -/
def htsFact (W : World) (l : List Ht) : Fact Grows := ⟨Option Addr × Nat, (none, 0), fun p => .slice p.1 l.length p.2, fun p w => w.ownsRow W.heap.size 35 4 (.slice p.1 l.length p.2) l.length (l.flatMap htE), fun _ _ _ h g => owned_grow h g⟩
section
variable {P : Program} {ops : Array Oper} {W : World} {Q : Act → World → Prop} {o : Oper} {rest : List Oper} {fs : List (Fact Grows)} {ks : Known} {a : Act}
theorem f_callG {F : Fact Grows} (f : FuncId) (args : Array Value) (hw : Region.wanted o (yielded ops a.tmps) = true) (h1 : ∀ w, Grows W w → (execOp a.eval o).run P w = .ok (.enter f args) w)
    (hc : ∀ w, Grows W w → ks.for (o.looksAt ops) w → Calls P f args w fun e w' => Grows w w' ∧ ∃ x, e = .returned (F.val x) ∧ F.R x w') (h2 : ∀ x, wpF P ops Grows W Q rest fs ((o.dst, F.R x) :: ks) (a.put o.dst (F.val x))) : wpF P ops Grows W Q (o :: rest) (F :: fs) ks a := by
  unfold wpF fStep
  rw [if_pos hw]
  refine ⟨fun w hW hk => ?_, h2⟩
  unfold gives
  rw [h1 w hW]
  exact hc w hW hk
theorem f_htsv (l : List Ht) (A : Option Addr) (c : Nat) (hw : Region.wanted o (yielded ops a.tmps) = true) (h1 : ∀ w, Grows W w → ks.for (o.looksAt ops) w → (execOp a.eval o).run P w = .ok (.value (.slice A l.length c)) w ∧ w.ownsRow W.heap.size 35 4 (.slice A l.length c) l.length (l.flatMap htE))
    (h2 : ∀ (A : Option Addr) (c : Nat), wpF P ops Grows W Q rest fs ((o.dst, fun w => w.ownsRow W.heap.size 35 4 (.slice A l.length c) l.length (l.flatMap htE)) :: ks) (a.put o.dst (.slice A l.length c))) :
    wpF P ops Grows W Q (o :: rest) (htsFact W l :: fs) ks a := by
  unfold wpF fStep
  rw [if_pos hw]
  refine ⟨fun w hW hk => ?_, fun x => h2 x.1 x.2⟩
  unfold gives
  rw [(h1 w hW hk).1]
  exact ⟨Grows.refl w, (A, c), rfl, (h1 w hW hk).2⟩
theorem f_ptr (t : TypeId) (cs : Array Value) (hw : Region.wanted o (yielded ops a.tmps) = true) (h1 : ∀ w, Grows W w → (execOp a.eval o).run P w = .ok (.value (.pointer (some ⟨w.heap.size, 0, none⟩))) (w.alloc (.cells cs t)))
    (h2 : ∀ g, wpF P ops Grows W Q rest fs ((o.dst, fun w => W.heap.size ≤ g ∧ Whole w g t cs) :: ks) (a.put o.dst (.pointer (some ⟨g, 0, none⟩)))) :
    wpF P ops Grows W Q (o :: rest) (ptrFact W t cs :: fs) ks a := by
  unfold wpF fStep
  rw [if_pos hw]
  refine ⟨fun w hW hk => ?_, h2⟩
  unfold gives
  rw [h1 w hW]
  exact ⟨grows_alloc _ _, w.heap.size, rfl, hW.size, Whole.made _ _ _⟩
end
theorem row_unlike {w : World} {base : Nat} {e t : TypeId} {size n g : Nat} {v : Value} {xs : List Value} {cs : Array Value} (h : w.ownsRow base e size v n xs) (h' : Whole w g t cs) (hne : t ≠ e) : ∀ k, v.ownBlock = some k → k ≠ g := fun k hk e' => by
  rcases h.2 with ⟨rfl, _⟩ | ⟨g2, cap, cur, rfl, _, hh, _⟩
  · simp [Value.ownBlock] at hk
  · simp [Value.ownBlock] at hk
    subst hk e'
    have := (show w.heap[g2]? = some (.cells cur e (0, 0)) from hh).symm.trans h'
    injection this with this
    injection this with _ this
    exact hne this.symm
theorem bodies_items {w : World} {b : Nat} {A : Option Addr} {c : Nat} {hs : List Hd} {ts : List It} (ho : w.ownsRow b 56 3 (.slice A ts.length c) ts.length (itCells ts hs)) (hb : Bodies w b hs ts) : Items w A ts.length c ts :=
  Items.owned hb.1.symm rfl ho fun i h t hh ht => Sl.owned (hb.2 i h t hh ht)
theorem Items.first {w : World} {A : Option Addr} {n c : Nat} {ts : List It} (h : Items w A n c ts) {k : Nat} (hk : k ≤ n) : Items w A k c (ts.take k) := by
  obtain ⟨h1, h2, h3, hs, hl, hr, hq⟩ := h
  have e : itCells (ts.take k) (hs.take k) = (itCells ts hs).take (3 * k) := by
    have h4 := itCells_append (ts.take k) (ts.drop k) (hs.take k) (hs.drop k) (by rw [List.length_take, List.length_take]; omega)
    rw [List.take_append_drop, List.take_append_drop] at h4
    rw [h4]
    exact (List.take_left' (by rw [itCells_length _ _ (by rw [List.length_take, List.length_take]; omega), List.length_take]; omega)).symm
  refine ⟨by rw [List.length_take]; omega, Nat.le_trans hk h2, h3, hs.take k, by rw [List.length_take]; omega, ?_, fun i x t hx ht => hq i x t ?_ ?_⟩
  · rw [e]
    refine ⟨by rw [List.length_take, hr.len]; omega, fun j v hj => ?_⟩
    rw [List.getElem?_take] at hj
    split at hj
    · exact hr.spot j v hj
    · cases hj
  · rw [List.getElem?_take] at hx
    split at hx
    · exact hx
    · cases hx
  · rw [List.getElem?_take] at ht
    split at ht
    · exact ht
    · cases ht

set_option maxRecDepth 100000 in
set_option maxHeartbeats 8000000 in
theorem hget_any (A : Option Addr) (n c : Nat) (bs : List UInt8) (size : Int) (w : World) (hs : Sl w A n c bs) (hn : n ≤ 1000000) :
    Calls Try.prog 10 #[.slice A n c, .int .i64 size] w fun e w' => ∃ A' m c', e = .returned (.tuple #[.slice A' m c', .bool (getH bs size).isSome]) ∧
      m = ((getH bs size).getD []).length ∧ w'.ownsRow w.heap.size 35 4 (.slice A' m c') m (((getH bs size).getD []).flatMap htE) ∧ Grows w w' := by
  have hlen := hs.len
  have hcap := hs.cap
  have HALL := Lib.hid (all_in A n c bs w hs hn)
  have HS := Lib.hid hs
  obtain ⟨o, ho⟩ : ∃ o, okS size = o := ⟨_, rfl⟩
  have HSZ := Lib.hid (fun w' => show Calls Try.prog 16 #[.int .i64 size] w' fun e w'' => e = .returned (.bool o) ∧ Grows w' w'' from ho ▸ hrightSize_any size w')
  obtain ⟨G, hG⟩ : ∃ G, getH bs size = G := ⟨_, rfl⟩
  have hG0 := hG
  have hin := @all_within bs
  have hcn := @all_count bs
  unfold getH at hG0
  rw [ho] at hG0
  obtain ⟨⟨its, ps, en, er⟩, hal⟩ : ∃ r, allB bs 0 = r := ⟨_, rfl⟩
  rw [hal] at HALL hG0 hin hcn
  dsimp only at HALL hG0 hin hcn
  rw [hG]
  have HGG := Lib.hid (And.intro hG0 hin)
  have HCN := Lib.hid hcn
  clear hG hG0 ho hal hin hs hcn
  have hnone : G = none → ∀ (w' : World), Grows w w' → ∃ A' m c', Ending.returned (.tuple #[.slice none 0 0, .bool false]) = Ending.returned (.tuple #[.slice A' m c', .bool G.isSome]) ∧ m = (G.getD []).length ∧ w'.ownsRow w.heap.size 35 4 (.slice A' m c') m ((G.getD []).flatMap htE) ∧ Grows w w' := by
    rintro rfl w' hg
    exact ⟨none, 0, 0, rfl, rfl, World.ownsRow_nil _ _ _ _, hg⟩
  have HNONE := Lib.hid hnone
  clear hnone
  go_enter Try.func10, Try.ntmps10
  go_wp2_with (fail)
  refine HALL.out.mono ?_
  rintro e w1 ⟨IA, ic, ihs, rfl, hown, hbod, hg1⟩
  have HIT := Lib.hid (bodies_items hown hbod)
  have HG1 := Lib.hid (show Grows w w1 from hg1)
  clear hown hbod hg1
  obtain ⟨L, hL⟩ : ∃ L, its.length = L := ⟨_, rfl⟩
  rw [hL] at HIT HGG ⊢
  have HL := Lib.hid hL
  clear hL
  go_wp2_with (fail)
  refine (HSZ.out w1).mono ?_
  rintro e w2 ⟨rfl, hg2⟩
  have HG2 := Lib.hid (HG1.out.trans hg2)
  have HIT2 := Lib.hid (Items.grow hg2 HIT.out)
  clear hg2 HIT
  cases o
  · go_wp2_with (fail)
    refine bodyPost_ret (v := .tuple #[.slice none 0 0, .bool false]) (by simp [results, Try.results10, go_sem]) rfl ?_
    exact HNONE.out (by rw [← HGG.out.1]; rfl) _ HG2.out
  by_cases hps : ps = 0
  rotate_left 1
  · have k1 : (ps : Int) > 0 := by omega
    have HX := Lib.hid (show G = none by rw [← HGG.out.1]; simp [hps])
    clear hps
    go_wp2_with (fail)
    refine bodyPost_ret (v := .tuple #[.slice none 0 0, .bool false]) (by simp [results, Try.results10, go_sem]) rfl ?_
    exact HNONE.out HX.out _ HG2.out
  by_cases her : er = 0
  rotate_left 1
  · have k1 : ¬ (ps : Int) > 0 := by omega
    have k2 : ((er : Int) != 0) = true := by rw [bne_iff_ne]; omega
    have HX := Lib.hid (show G = none by rw [← HGG.out.1]; simp [her])
    clear her hps
    go_wp2_with (fail)
    refine bodyPost_ret (v := .tuple #[.slice none 0 0, .bool false]) (by simp [results, Try.results10, go_sem]) rfl ?_
    exact HNONE.out HX.out _ HG2.out
  by_cases hl0 : L = 0
  · subst hl0 her hps
    have HX := Lib.hid (show G = none by rw [← HGG.out.1]; simp)
    simp only [Int.natCast_zero]
    go_wp2_with (fail)
    refine bodyPost_ret (v := .tuple #[.slice none 0 0, .bool false]) (by simp [results, Try.results10, go_sem]) rfl ?_
    exact HNONE.out HX.out _ HG2.out
  have k3 : ¬ (L : Int) = 0 := by omega
  obtain ⟨K, hK⟩ : ∃ K, L = K + 1 := ⟨L - 1, by omega⟩
  have HIN := Lib.hid (HGG.out.2 hps her)
  have hGE := HGG.out.1
  rw [show L - 1 = K by omega, if_pos (by simp [hl0, hps, her])] at hGE
  have hKL : K < L := by omega
  have hKc : K ≤ ic := by have := HIT2.out.cap; omega
  have hLm : L ≤ 1000000 := by
    have h1 := HL.out
    have h2 := HCN.out hps her
    omega
  have kw1 : IntKind.i64.wrap ((L : Int) - 1) = (K : Int) := by rw [IntWalk.i64_in _ ⟨by omega, by omega⟩]; omega
  have kw2 : wrap64 ((L : Int) - 1) = (K : Int) := by rw [← IntWalk.i64_left]; exact kw1
  have k4 : (K : Int) ≤ (ic : Int) := by omega
  have k5 : (0 : Int) ≤ (K : Int) := by omega
  have k6 : (K : Int) < (L : Int) := by omega
  obtain ⟨ad, SB, sm, sd, rfl, hc0, hc1, hc2, hsl⟩ := HIT2.out.spot hKL
  obtain ⟨⟨ta, tk, tb⟩, ht⟩ : ∃ t, its.getD K (0, 0, []) = t := ⟨_, rfl⟩
  rw [ht] at hc0 hc1 hsl hGE
  dsimp only at hc0 hc1 hsl hGE
  have HTM := Lib.hid (show (ta, tk, tb) ∈ its by
    rw [← ht, List.getD_eq_getElem?_getD, List.getElem?_eq_getElem (by rw [HL.out]; exact hKL), Option.getD_some]
    exact List.getElem_mem _)
  obtain ⟨l, hl⟩ : ∃ l, (its.take K).map (fun t => toldH t.2.2) = l := ⟨_, rfl⟩
  rw [hl] at hGE
  have hlK : l.length = K := by rw [← hl, List.length_map, List.length_take, HL.out]; omega
  have HTO := Lib.hid (fun w' (hC : Grows w2 w') => by
    have h1 := told_any (some ad) K ic (its.take K) w' ((Items.grow hC HIT2.out).first (by omega)) (by omega) (fun t ht => by have := (HIN.out t (List.mem_of_mem_take ht)).2; omega)
    rw [hl] at h1
    exact h1)
  have HC := Lib.hid (fun w' (hC : Grows w2 w') => And.intro (hc0 w' hC) (And.intro (hc1 w' hC) (hc2 w' hC)))
  have HSB := Lib.hid hsl
  have HGE := Lib.hid hGE
  have HLK := Lib.hid (And.intro hlK (And.intro hKL hKc))
  subst her hps
  simp only [Int.natCast_zero]
  clear hc0 hc1 hc2 hsl hGE hlK hl ht hK hl0 HGG hKL hKc
  go_wp2_with (fail)
  refine wp_region_facts_tail (E := Grows) 10 [valFact (.slice (some ad) L ic), valFact (.int .i64 (K : Int)), valFact (.slice (some ad) K ic), htsFact w2 l, valFact (.slice (some ad) L ic), valFact (.int .i64 (K : Int)), valFact (.pointer (some (ad.add (K * 3)))), valFact (.agg #[.int .i64 (ta : Nat), .int .i64 (tk : Nat), .slice SB sm sd]), ptrFact w2 56 #[.int .i64 0, .int .i64 0, .slice none 0 0], htsFact w2 l] mixed (by kernel_rfl) (fun _ _ _ => Grows.trans) (grows_drew _) ?_
  simp only [List.take_succ_cons, List.take_zero, List.drop_succ_cons, List.drop_zero]
  refine f_val (.slice (some ad) L ic) (by rfl) ?_ ?_
  · intro w' hC; clear hC; first | (go_simp; done)
  simp only [Act.put, List.setIfInBounds_toArray, List.set_cons_zero, List.set_cons_succ]
  refine f_val (.int .i64 (K : Int)) (by rfl) ?_ ?_
  · intro w' hC; clear hC; first | (go_simp; done)
  simp only [Act.put, List.setIfInBounds_toArray, List.set_cons_zero, List.set_cons_succ]
  refine f_val (.slice (some ad) K ic) (by rfl) ?_ ?_
  · intro w' hC; clear hC; first | (go_simp; done)
  simp only [Act.put, List.setIfInBounds_toArray, List.set_cons_zero, List.set_cons_succ]
  refine f_callG (F := htsFact w2 l) 21 #[.slice (some ad) K ic] (by rfl) (by intro w' hC; clear hC; go_simp) ?_ ?_
  · intro w' hC hks
    refine (HTO.out w' hC).mono ?_
    rintro e w'' ⟨A', c', rfl, h1, h2⟩
    refine ⟨h2, (A', c'), ?_, ?_⟩
    · show _ = Ending.returned (.slice A' l.length c')
      rw [HLK.out.1]
    · show w''.ownsRow w2.heap.size _ 4 (.slice A' l.length c') l.length _
      rw [HLK.out.1]
      exact owned_from h1 hC.size
  rintro ⟨HA, hcp⟩
  dsimp only [htsFact]
  simp only [Act.put, List.setIfInBounds_toArray, List.set_cons_zero, List.set_cons_succ]
  refine f_val (.slice (some ad) L ic) (by rfl) ?_ ?_
  · intro w' hC; clear hC; first | (go_simp; done)
  simp only [Act.put, List.setIfInBounds_toArray, List.set_cons_zero, List.set_cons_succ]
  refine f_val (.int .i64 (K : Int)) (by rfl) ?_ ?_
  · intro w' hC; clear hC; first | (go_simp; done)
  simp only [Act.put, List.setIfInBounds_toArray, List.set_cons_zero, List.set_cons_succ]
  refine f_val (.pointer (some (ad.add (K * 3)))) (by rfl) ?_ ?_
  · intro w' hC; clear hC; first | (go_simp; done)
  simp only [Act.put, List.setIfInBounds_toArray, List.set_cons_zero, List.set_cons_succ]
  refine f_val (.agg #[.int .i64 (ta : Nat), .int .i64 (tk : Nat), .slice SB sm sd]) (by rfl) ?_ ?_
  · intro w' hC; obtain ⟨z0, z1, z2⟩ := HC.out w' hC; clear hC; first | (go_simp; done)
  simp only [Act.put, List.setIfInBounds_toArray, List.set_cons_zero, List.set_cons_succ]
  refine f_ptr 56 #[.int .i64 0, .int .i64 0, .slice none 0 0] (by rfl) (by intro w' hC; clear hC; go_simp) ?_
  intro pg
  simp only [Act.put, List.setIfInBounds_toArray, List.set_cons_zero, List.set_cons_succ]
  refine f_htsv l HA hcp (by rfl) ?_ ?_
  · intro w' hC hks
    refine ⟨?_, Known.get hks 1 rfl rfl⟩
    clear hC hks
    go_simp
  intro HB hcq
  simp only [Act.put, List.setIfInBounds_toArray, List.set_cons_zero, List.set_cons_succ]
  refine wpF_end ?_
  intro w4 hC hks
  have HCw4 := Lib.hid hC
  have HPT := Lib.hid (Known.at hks 1 rfl)
  have HHR := Lib.hid (Known.at hks 0 rfl)
  clear hC hks
  have hm4 := HPT.out.2
  have q0 := hm4.free 0
  have q1 := hm4.free 1
  have q2 := hm4.free 2
  have y0 := hm4.cell 0
  have y1 := hm4.cell 1
  have y2 := hm4.cell 2
  simp only [List.getElem?_toArray, List.getElem?_cons_zero, List.getElem?_cons_succ] at y0 y1 y2
  clear hm4
  go_wp2_with (fail)
  obtain ⟨w5, hw5⟩ : ∃ y, ((w4.setCell ⟨pg, 0, none⟩ (.int .i64 (ta : Nat))).setCell ⟨pg, 1, none⟩ (.int .i64 (tk : Nat))).setCell ⟨pg, 2, none⟩ (.slice SB sm sd) = y := ⟨_, rfl⟩
  have hgp := HPT.out.1
  have hg5 : Grows w2 w5 := by
    rw [← hw5]
    exact ((Below.setCell (p := ⟨pg, 0, none⟩) HCw4.out hgp _).setCell (p := ⟨pg, 1, none⟩) hgp _).setCell (p := ⟨pg, 2, none⟩) hgp _
  have hm5 : Whole w5 pg 56 #[.int .i64 (ta : Nat), .int .i64 (tk : Nat), .slice SB sm sd] := by
    rw [← hw5]
    exact ((HPT.out.2.put 0 _).put 1 _).put 2 _
  have ho5 : w5.ownsRow w2.heap.size 35 4 (.slice HB l.length hcq) l.length (l.flatMap htE) := by
    refine owned_same3 HHR.out fun k hk => ?_
    have hne := row_unlike HHR.out HPT.out.2 (by decide) k hk
    rw [← hw5, Below.heap_setCell _ _ _ _ hne, Below.heap_setCell _ _ _ _ hne, Below.heap_setCell _ _ _ _ hne]
  rw [hw5]
  have hta : ta ≤ n := by have := (HIN.out _ HTM.out).1; omega
  have hin2 := HIN.out _ HTM.out
  obtain ⟨r, hr⟩ : ∃ r, rightH l = r := ⟨_, rfl⟩
  obtain ⟨eq, heq⟩ : ∃ b, decide (tb = lastB l.length size (bs.take ta)) = b := ⟨_, rfl⟩
  have HRT := Lib.hid (fun w' (hC : Grows w5 w') => by
    have h1 := hright_any HB l.length hcq l w' (Rs.owned htL rfl (owned_from (owned_grow ho5 hC) (Nat.zero_le _))) (by have := HLK.out.1; have := HLK.out.2; omega)
    rw [hr] at h1
    exact h1)
  have HLA := Lib.hid (fun w' (hC : Grows w5 w') => hlast_any (l.length : Int) size A ta c (bs.take ta) w' ((HS.out.grow (HG2.out.trans (hg5.trans hC))).first hta) (by unfold maxLen; omega))
  have HC5 := Lib.hid (fun w' (hC : Grows w5 w') => And.intro ((hC.whole hm5).cell 0) ((hC.whole hm5).cell 2))
  have HSL := Lib.hid (fun w' (hC : Grows w5 w') => Sl.grow (hg5.trans hC) HSB.out)
  have HO5 := Lib.hid (And.intro ho5 (HG2.out.trans hg5))
  have HRE := Lib.hid (And.intro hr heq)
  have HS2 := Lib.hid HG2.out.size
  have k7 : (ta : Int) ≤ (c : Int) := by omega
  have k8 : (0 : Int) ≤ (ta : Int) := by omega
  have HGF := Lib.hid (show (if (r && eq) = true then some l else none) = G by
    rw [← hr, ← heq, HLK.out.1]
    exact HGE.out)
  clear hgp hg5 hm5 ho5 hta hin2 hr heq q0 q1 q2 y0 y1 y2 hw5
  cases r
  · replace HGF := Lib.hid (show G = none by rw [← HGF.out]; rfl)
    refine wp_region_facts (E := Grows) [valFact (.slice HB l.length hcq), valFact (.bool false), valFact (.bool true), valFact (.bool true), valFact undef, valFact undef, valFact undef, valFact undef, valFact undef, valFact undef, valFact undef, valFact undef, valFact undef, valFact undef, valFact undef, valFact undef, valFact (.bool true)] (by kernel_rfl) (by kernel_rfl) (fun _ _ _ => Grows.trans) (grows_drew _) ?_
    refine f_val (.slice HB l.length hcq) (by rfl) ?_ ?_
    · intro w' hC; clear hC; first | (go_simp; done)
    simp only [Act.put, List.setIfInBounds_toArray, List.set_cons_zero, List.set_cons_succ]
    refine f_call 12 #[.slice HB l.length hcq] (.bool false) (by rfl) (by intro w' hC; clear hC; go_simp) ?_ ?_
    · intro w' hC hks; exact (HRT.out w' hC).mono fun e w'' hh => ⟨hh.1, hh.2⟩
    simp only [Act.put, List.setIfInBounds_toArray, List.set_cons_zero, List.set_cons_succ]
    refine f_val (.bool true) (by rfl) ?_ ?_
    · intro w' hC; clear hC; first | (go_simp; done)
    simp only [Act.put, List.setIfInBounds_toArray, List.set_cons_zero, List.set_cons_succ]
    refine f_val (.bool true) (by rfl) ?_ ?_
    · intro w' hC; clear hC; first | (go_simp; done)
    simp only [Act.put, List.setIfInBounds_toArray, List.set_cons_zero, List.set_cons_succ]
    refine f_skip (by rfl) ?_
    simp only [Act.put, List.setIfInBounds_toArray, List.set_cons_zero, List.set_cons_succ]
    refine f_skip (by rfl) ?_
    simp only [Act.put, List.setIfInBounds_toArray, List.set_cons_zero, List.set_cons_succ]
    refine f_skip (by rfl) ?_
    simp only [Act.put, List.setIfInBounds_toArray, List.set_cons_zero, List.set_cons_succ]
    refine f_skip (by rfl) ?_
    simp only [Act.put, List.setIfInBounds_toArray, List.set_cons_zero, List.set_cons_succ]
    refine f_skip (by rfl) ?_
    simp only [Act.put, List.setIfInBounds_toArray, List.set_cons_zero, List.set_cons_succ]
    refine f_skip (by rfl) ?_
    simp only [Act.put, List.setIfInBounds_toArray, List.set_cons_zero, List.set_cons_succ]
    refine f_skip (by rfl) ?_
    simp only [Act.put, List.setIfInBounds_toArray, List.set_cons_zero, List.set_cons_succ]
    refine f_skip (by rfl) ?_
    simp only [Act.put, List.setIfInBounds_toArray, List.set_cons_zero, List.set_cons_succ]
    refine f_skip (by rfl) ?_
    simp only [Act.put, List.setIfInBounds_toArray, List.set_cons_zero, List.set_cons_succ]
    refine f_skip (by rfl) ?_
    simp only [Act.put, List.setIfInBounds_toArray, List.set_cons_zero, List.set_cons_succ]
    refine f_skip (by rfl) ?_
    simp only [Act.put, List.setIfInBounds_toArray, List.set_cons_zero, List.set_cons_succ]
    refine f_skip (by rfl) ?_
    simp only [Act.put, List.setIfInBounds_toArray, List.set_cons_zero, List.set_cons_succ]
    refine f_val (.bool true) (by rfl) ?_ ?_
    · intro w' hC; clear hC; first | (go_simp; done)
    simp only [Act.put, List.setIfInBounds_toArray, List.set_cons_zero, List.set_cons_succ]
    refine wpF_end ?_
    intro w6 hC hks
    have HCw6 := Lib.hid hC
    clear hC hks
    go_wp2_with (fail)
    refine bodyPost_ret (v := .tuple #[.slice none 0 0, .bool false]) (by simp [results, Try.results10, go_sem]) rfl ?_
    exact HNONE.out HGF.out _ (HO5.out.2.trans HCw6.out)
  refine wp_region_facts (E := Grows) [valFact (.slice HB l.length hcq), valFact (.bool true), valFact (.bool false), valFact (.bool false), valFact (.pointer (some ⟨pg, 2, none⟩)), valFact (.slice SB sm sd), valFact (.slice HB l.length hcq), valFact (.int .i64 (l.length : Int)), valFact (.int .i64 size), valFact (.slice A n c), valFact (.pointer (some ⟨pg, 0, none⟩)), valFact (.int .i64 (ta : Nat)), valFact (.slice A ta c), slFact (lastB l.length size (bs.take ta)), valFact (.bool eq), valFact (.bool (!eq)), valFact (.bool (!eq))] (by kernel_rfl) (by kernel_rfl) (fun _ _ _ => Grows.trans) (grows_drew _) ?_
  refine f_val (.slice HB l.length hcq) (by rfl) ?_ ?_
  · intro w' hC; clear hC; first | (go_simp; done)
  simp only [Act.put, List.setIfInBounds_toArray, List.set_cons_zero, List.set_cons_succ]
  refine f_call 12 #[.slice HB l.length hcq] (.bool true) (by rfl) (by intro w' hC; clear hC; go_simp) ?_ ?_
  · intro w' hC hks; exact (HRT.out w' hC).mono fun e w'' hh => ⟨hh.1, hh.2⟩
  simp only [Act.put, List.setIfInBounds_toArray, List.set_cons_zero, List.set_cons_succ]
  refine f_val (.bool false) (by rfl) ?_ ?_
  · intro w' hC; clear hC; first | (go_simp; done)
  simp only [Act.put, List.setIfInBounds_toArray, List.set_cons_zero, List.set_cons_succ]
  refine f_val (.bool false) (by rfl) ?_ ?_
  · intro w' hC; clear hC; first | (go_simp; done)
  simp only [Act.put, List.setIfInBounds_toArray, List.set_cons_zero, List.set_cons_succ]
  refine f_val (.pointer (some ⟨pg, 2, none⟩)) (by rfl) ?_ ?_
  · intro w' hC; clear hC; first | (go_simp; done)
  simp only [Act.put, List.setIfInBounds_toArray, List.set_cons_zero, List.set_cons_succ]
  refine f_val (.slice SB sm sd) (by rfl) ?_ ?_
  · intro w' hC; obtain ⟨z0, z2⟩ := HC5.out w' hC; clear hC; first | (go_simp; done)
  simp only [Act.put, List.setIfInBounds_toArray, List.set_cons_zero, List.set_cons_succ]
  refine f_val (.slice HB l.length hcq) (by rfl) ?_ ?_
  · intro w' hC; clear hC; first | (go_simp; done)
  simp only [Act.put, List.setIfInBounds_toArray, List.set_cons_zero, List.set_cons_succ]
  refine f_val (.int .i64 (l.length : Int)) (by rfl) ?_ ?_
  · intro w' hC; clear hC; first | (go_simp; done)
  simp only [Act.put, List.setIfInBounds_toArray, List.set_cons_zero, List.set_cons_succ]
  refine f_val (.int .i64 size) (by rfl) ?_ ?_
  · intro w' hC; clear hC; first | (go_simp; done)
  simp only [Act.put, List.setIfInBounds_toArray, List.set_cons_zero, List.set_cons_succ]
  refine f_val (.slice A n c) (by rfl) ?_ ?_
  · intro w' hC; clear hC; first | (go_simp; done)
  simp only [Act.put, List.setIfInBounds_toArray, List.set_cons_zero, List.set_cons_succ]
  refine f_val (.pointer (some ⟨pg, 0, none⟩)) (by rfl) ?_ ?_
  · intro w' hC; clear hC; first | (go_simp; done)
  simp only [Act.put, List.setIfInBounds_toArray, List.set_cons_zero, List.set_cons_succ]
  refine f_val (.int .i64 (ta : Nat)) (by rfl) ?_ ?_
  · intro w' hC; obtain ⟨z0, z2⟩ := HC5.out w' hC; clear hC; first | (go_simp; done)
  simp only [Act.put, List.setIfInBounds_toArray, List.set_cons_zero, List.set_cons_succ]
  refine f_val (.slice A ta c) (by rfl) ?_ ?_
  · intro w' hC; clear hC; first | (go_simp; done)
  simp only [Act.put, List.setIfInBounds_toArray, List.set_cons_zero, List.set_cons_succ]
  refine f_new (lastB l.length size (bs.take ta)) 19 #[.int .i64 (l.length : Int), .int .i64 size, .slice A ta c] (by rfl) (by intro w' hC; clear hC; go_simp) ?_ ?_
  · intro w' hC hks; exact (HLA.out w' hC).mono fun e w'' ⟨A', c', he, h1, h2⟩ => ⟨A', 13, c', he, Sl.owned h1, h2⟩
  intro LA lc
  simp only [Act.put, List.setIfInBounds_toArray, List.set_cons_zero, List.set_cons_succ]
  refine f_call 22 #[.slice SB sm sd, .slice LA (lastB l.length size (bs.take ta)).length lc] (.bool eq) (by rfl) (by intro w' hC; clear hC; go_simp) ?_ ?_
  · intro w' hC hks; rw [← HRE.out.2]; exact (bytesEqual_any SB sm sd tb LA _ lc _ w' (HSL.out w' hC) (Known.get hks 0 rfl rfl)).mono fun e w'' hh => ⟨hh.1, hh.2⟩
  simp only [Act.put, List.setIfInBounds_toArray, List.set_cons_zero, List.set_cons_succ]
  refine f_val (.bool (!eq)) (by rfl) ?_ ?_
  · intro w' hC; clear hC; first | (go_simp; done)
  simp only [Act.put, List.setIfInBounds_toArray, List.set_cons_zero, List.set_cons_succ]
  refine f_val (.bool (!eq)) (by rfl) ?_ ?_
  · intro w' hC; clear hC; first | (go_simp; done)
  simp only [Act.put, List.setIfInBounds_toArray, List.set_cons_zero, List.set_cons_succ]
  refine wpF_end ?_
  intro w6 hC hks
  have HCw6 := Lib.hid hC
  clear hC hks
  cases eq
  · replace HGF := Lib.hid (show G = none by rw [← HGF.out]; rfl)
    go_wp2_with (fail)
    refine bodyPost_ret (v := .tuple #[.slice none 0 0, .bool false]) (by simp [results, Try.results10, go_sem]) rfl ?_
    exact HNONE.out HGF.out _ (HO5.out.2.trans HCw6.out)
  · replace HGF := Lib.hid (show some l = G by rw [← HGF.out]; rfl)
    go_wp2_with (fail)
    refine bodyPost_ret (v := .tuple #[.slice HB l.length hcq, .bool true]) (by simp [results, Try.results10, go_sem]) rfl ?_
    rw [← HGF.out]
    exact ⟨HB, l.length, hcq, rfl, rfl, owned_from (owned_grow HO5.out.1 HCw6.out) HS2.out, HO5.out.2.trans HCw6.out⟩
end Go.Proofs.Ytdjlhdeejpndcaa

