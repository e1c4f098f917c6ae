/-
  keys: a row's places are spread over so many cells.
-/
import Derived.Test.YtadgbobemmfjoaaKsApp
import Derived.Laws.MakeOwn
namespace Go.Proofs.Ytadgbobemmfjoaa
open Go.RowKit
set_option linter.unusedVariables false
set_option linter.unusedSimpArgs false
attribute [local irreducible] wpF

/-- A row: its two words at o in block b, of which the other cells are f. -/
def RowIn (w : World) (b o : Nat) (S : Nat → Prop) (cells : List (List Pl)) (t : TypeId) (f : Nat → Option Value) : Prop :=
  ∃ g vs cs, Whole w b t cs ∧ cs[o]? = some (.slice (some ⟨g, 0, none⟩) cells.length cells.length) ∧ cs[o + 1]? = some (.int .i64 (cells.flatten.length : Nat)) ∧ (∀ i, i ≠ o → i ≠ o + 1 → cs[i]? = f i) ∧ CellsV w S g cells vs ∧ ¬ S b
theorem RowIn.at {w : World} {b o : Nat} {S : Nat → Prop} {cells : List (List Pl)} {t : TypeId} {f : Nat → Option Value} (h : RowIn w b o S cells t f) : ∃ g vs, RowAt w b o S g cells vs := by
  obtain ⟨g, vs, cs, h1, h2, h3, _, h5, h6⟩ := h
  exact ⟨g, vs, ⟨by rw [h1.cell]; exact h2, by rw [h1.cell]; exact h3, h5, h6⟩⟩
theorem Spares.then {own own2 : Nat → Prop} {a b c : World} (h : Spares own a b) (k : Spares own2 b c) (hn : ∀ q, q < a.heap.size → own2 q → own q) : Spares own a c :=
  ⟨k.os.trans h.os, k.tape.trans h.tape, k.output.trans h.output, Nat.le_trans h.size k.size, fun q hq ho => (k.same q (Nat.lt_of_lt_of_le hq h.size) fun e => ho (hn q hq e)).trans (h.same q hq ho)⟩
def blkFrom (N : Nat) (t : TypeId) (cs : Array Value) (n : Nat) : Fact Grows := ⟨Nat, N, fun g => .slice (some ⟨g, 0, none⟩) n n, fun g w => Whole w g t cs ∧ N ≤ g, fun _ _ _ h g => ⟨Grows.whole g h.1, h.2⟩⟩
section
variable {P : Program} {ops : Array Oper} {W : World} {Q : Act → World → Prop} {o : Oper} {rest : List Oper} {fs : List (Fact Grows)} {ks : Known} {a : Act}
theorem f_madeN (t : TypeId) (cs : Array Value) (n : Nat) (hw : Region.wanted o (yielded ops a.tmps) = true) (h1 : ∀ w, Grows W w → (execOp a.eval o).run P w = .ok (.value (.slice (some ⟨w.heap.size, 0, none⟩) n n)) (w.alloc (.cells cs t)))
    (h2 : ∀ g, wpF P ops Grows W Q rest fs ((o.dst, fun w => Whole w g t cs ∧ W.heap.size ≤ g) :: ks) (a.put o.dst (.slice (some ⟨g, 0, none⟩) n n))) :
    wpF P ops Grows W Q (o :: rest) (blkFrom W.heap.size t cs n :: fs) ks a := by
  unfold wpF fStep
  rw [if_pos hw]
  refine ⟨fun w hW hk => ?_, fun g => h2 g⟩
  unfold gives
  rw [h1 w hW]
  exact ⟨grows_alloc _ _, w.heap.size, rfl, Whole.made _ _ _, hW.size⟩
end
theorem infoCell : (Try.prog.info? 54).map (fun i => (i.zero, i.size, i.bytes)) = some (some (.slice none 0 0), 1, 24) := by kernel_rfl
def zeroS (n : Nat) : List Value := List.replicate n (.slice none 0 0)
theorem make_cells (n : Nat) (hn : n ≤ 10000000) (w : World) :
    (Instr.makeSlice 47 (.int .i64 (n : Nat)) (.int .i64 (n : Nat))).run Try.prog w = .ok (.slice (some ⟨w.heap.size, 0, none⟩) n n) (w.alloc (.cells (zeroS n).toArray 54)) := by
  obtain ⟨i0, hi, hz0, hz1, hz2⟩ := info_of infoCell
  have h := run_make (P := Try.prog) w 47 54 i0 (.slice none 0 0) Try.underlying47 hi hz0 .i64 .i64 (n : Nat) (n : Nat) (by omega) (by omega) (by rw [hz2]; omega) (by omega)
  rw [hz1, Nat.mul_one, Int.toNat_natCast] at h
  rw [h]
  have : madeCells (Value.slice none 0 0).cells n = (zeroS n).toArray := by
    apply Array.ext'
    show (madeCells #[Value.slice none 0 0] n).toList = _
    rw [toList_madeCells_one]
    simp [zeroS]
  rw [this]
theorem spreadC_nil (n : Nat) : spreadC n [] = List.replicate n [] := by
  apply List.ext_getElem?
  intro i
  by_cases h : i < n
  · rw [spreadC_get [] h]
    simp [h]
  · rw [List.getElem?_eq_none (by rw [spreadC_len]; omega), List.getElem?_eq_none (by simp; omega)]
theorem spreadC_snoc {n : Nat} (hn : 0 < n) (l : List Pl) (p : Pl) : spreadC n (l ++ [p]) = (spreadC n l).set (cellOf n p.key) ((spreadC n l).getD (cellOf n p.key) [] ++ [p]) := by
  apply List.ext_getElem?
  intro i
  by_cases h : i < n
  · rw [spreadC_get _ h, List.getElem?_set]
    have hc := cellOf_lt hn p.key
    split
    · rename_i e
      subst e
      have h1 := spreadC_get l hc
      simp [List.getD_eq_getElem?_getD, h1, List.filter_append, spreadC_len, hc]
      exact (List.getElem?_eq_some_iff.1 h1).2.symm
    · rename_i e
      have : (cellOf n p.key == i) = false := by simpa using e
      rw [spreadC_get _ h, List.filter_append]
      simp [this]
  · rw [List.getElem?_eq_none (by rw [spreadC_len]; omega), List.getElem?_eq_none (by rw [List.length_set, spreadC_len]; omega)]
/-- New cells, of nothing. -/
theorem CellsV.made {w : World} {g n : Nat} (h : Whole w g 54 (zeroS n).toArray) : CellsV w (fun k => k = g) g (spreadC n []) (zeroS n) := by
  have hz : ∀ (c : Nat) (v : Value), (zeroS n)[c]? = some v → v = Value.slice none 0 0 := fun c v hv => by
    unfold zeroS at hv
    exact (List.mem_replicate.1 (List.mem_of_getElem? hv)).2
  refine ⟨h, by rw [spreadC_len]; simp [zeroS], rfl, fun k hk => hk ▸ h.lt, fun c l v h1 h2 => ?_, fun c v k h1 h2 => ?_, fun c c' v v' k h1 h2 h3 h4 => ?_⟩
  · rw [hz c v h2]
    rw [spreadC_nil] at h1
    have : l = [] := (List.mem_replicate.1 (List.mem_of_getElem? h1)).2
    subst this
    exact ⟨rfl, .inl ⟨rfl, rfl⟩⟩
  · rw [hz c v h1] at h2; cases h2
  · rw [hz c v h1] at h3; cases h3
/-- While places are spread: those that are done. -/
def Spr (w : World) (b g g2 m tb : Nat) (t : TypeId) (o : Nat) (cs2 : Array Value) (S : Nat → Prop) (cells : List (List Pl)) (vs : List Value) (done : List Pl) (w' : World) : Prop :=
  ∃ S2 vs2, Whole w' b t cs2 ∧ CellsV w' S2 g2 (spreadC m done) vs2 ∧ (∀ k, S2 k → g2 ≤ k) ∧ CellsV w' S g cells vs ∧ w'.cell? ⟨tb, 0, none⟩ = some (.pointer (some ⟨b, o, none⟩)) ∧ Spares (fun k => k = b) w w'
theorem Spr.grow {w : World} {b g g2 m tb : Nat} {t : TypeId} {o : Nat} {cs2 : Array Value} {S : Nat → Prop} {cells : List (List Pl)} {vs : List Value} {done : List Pl} {w' w'' : World} (h : Spr w b g g2 m tb t o cs2 S cells vs done w') (hg : Grows w' w'') : Spr w b g g2 m tb t o cs2 S cells vs done w'' := by
  obtain ⟨S2, vs2, h1, h2, h3, h4, h5, h6⟩ := h
  exact ⟨S2, vs2, hg.whole h1, h2.grow hg, h3, h4.grow hg, (hg.cell (World.block_lt_of_cell? w' _ h5)).trans h5, h6.trans (Spares.grows hg)⟩
theorem spreadC_cell_le {n : Nat} {l x : List Pl} (h : x ∈ spreadC n l) : x.length ≤ l.length := by
  obtain ⟨c, _, rfl⟩ := List.mem_map.1 h
  exact List.length_filter_le _ _
set_option maxHeartbeats 1000000 in
set_option maxRecDepth 100000 in
theorem spread_any {b o : Nat} {S : Nat → Prop} {cells : List (List Pl)} {t : TypeId} {f : Nat → Option Value} (m : Nat) (w : World) (h : RowIn w b o S cells t f) (hm : 0 < m ∧ m ≤ 1000000) (hn : cells.length ≤ 1000000 ∧ cells.flatten.length < 1000000) (hk : ∀ p ∈ cells.flatten, p.key.length ≤ 1000000000) (hlen : (spreadC m cells.flatten).flatten.length = cells.flatten.length) :
    Calls Try.prog 27 #[.pointer (some ⟨b, o, none⟩), .int .i64 (m : Nat)] w fun e w' => e = .returned (.tuple #[]) ∧ Spares (fun k => k = b) w w' ∧ ∃ S', RowIn w' b o S' (spreadC m cells.flatten) t f ∧ ∀ k, S' k → w.heap.size ≤ k := by
  obtain ⟨g, vs, cs, hW, hc0, hc1, hcf, hcv, hSb⟩ := h
  obtain ⟨N, hN⟩ : ∃ N, cells.length = N := ⟨_, rfl⟩
  obtain ⟨K, hK⟩ : ∃ K, cells.flatten.length = K := ⟨_, rfl⟩
  rw [hN] at hc0
  rw [hK] at hc1
  have hg1 := grows_alloc w (.cells #[.pointer (some ⟨b, o, none⟩)] 57)
  have hb1 := Boxed.new w 57 (.pointer (some ⟨b, o, none⟩))
  obtain ⟨W1, hW1⟩ : ∃ W1, w.alloc (.cells #[.pointer (some ⟨b, o, none⟩)] 57) = W1 := ⟨_, rfl⟩
  rw [hW1] at hg1 hb1
  have hs1 : W1.heap.size = w.heap.size + 1 := by rw [← hW1, World.size_alloc]
  obtain ⟨tb, htb⟩ : ∃ tb, w.heap.size = tb := ⟨_, rfl⟩
  rw [htb] at hb1
  have ct := hb1.cell
  have c0 := (hg1.whole hW).cell o
  have c1 := (hg1.whole hW).cell (o + 1)
  rw [hc0] at c0
  rw [hc1] at c1
  have hg2 := grows_alloc W1 (.cells #[.slice (some ⟨g, 0, none⟩) N N, .int .i64 (K : Int)] 49)
  have hm2 := Whole.made W1 49 #[.slice (some ⟨g, 0, none⟩) N N, .int .i64 (K : Int)]
  obtain ⟨W2, hW2⟩ : ∃ W2, W1.alloc (.cells #[.slice (some ⟨g, 0, none⟩) N N, .int .i64 (K : Int)] 49) = W2 := ⟨_, rfl⟩
  rw [hW2] at hg2 hm2
  have hs2 : W2.heap.size = W1.heap.size + 1 := by rw [← hW2, World.size_alloc]
  obtain ⟨fb, hfb⟩ : ∃ fb, W1.heap.size = fb := ⟨_, rfl⟩
  rw [hfb] at hm2
  have HX := Lib.hid (And.intro hW (And.intro hc0 (And.intro hc1 (And.intro hcf (And.intro hcv hSb)))))
  have HG := Lib.hid (And.intro (Grows.trans hg1 hg2) (And.intro hg2 (And.intro hm2 hb1)))
  have HS := Lib.hid (show tb < fb ∧ fb < W2.heap.size ∧ w.heap.size ≤ tb from by omega)
  have HT := Lib.hid (show ∀ w', Grows W2 w' → w'.cell? ⟨tb, 0, none⟩ = some (.pointer (some ⟨b, o, none⟩)) from fun w' hg => ((Grows.trans hg2 hg).cell (p := ⟨tb, 0, none⟩) hb1.lt).trans ct)
  have HMK := Lib.hid (show ∀ w', _ from fun w' => make_cells m (by omega) w')
  have HN := Lib.hid (And.intro hN (And.intro hK (And.intro hm (And.intro hn (And.intro hk hlen)))))
  clear hW hc0 hc1 hcf hcv hSb hg1 hg2 hm2 hb1 hN hK hn hk hlen hs1 hs2
  go_enter Try.func27, Try.ntmps27
  go_wp2_with (first | rw [hW1] | rw [hW2] | fail)
  clear ct c0 c1 hW1 hW2 htb hfb
  refine wp_region_facts_tail (E := Grows) 5 [valFact (.pointer (some ⟨b, o, none⟩)), valFact (.int .i64 (m : Int)), blkFrom W2.heap.size (54) ((zeroS m).toArray) m, valFact (.pointer (some ⟨b, o, none⟩)), valFact (.pointer (some ⟨b, o, none⟩))] mixed (by kernel_rfl) (fun _ _ _ => Grows.trans) (grows_drew _) ?_
  simp only [List.take_succ_cons, List.take_zero, List.drop_succ_cons, List.drop_zero]
  refine f_val (.pointer (some ⟨b, o, none⟩)) (by rfl) ?_ ?_
  · intro w' hC; have z := HT.out w' hC; clear hC; go_simp
  simp only [Act.put, List.setIfInBounds_toArray, List.set_cons_zero, List.set_cons_succ]
  refine f_val (.int .i64 (m : Int)) (by rfl) ?_ ?_
  · intro w' hC; clear hC; go_simp
  simp only [Act.put, List.setIfInBounds_toArray, List.set_cons_zero, List.set_cons_succ]
  refine f_madeN (54) ((zeroS m).toArray) m (by rfl) ?_ ?_
  · intro w' hC; have z := HMK.out w'; clear hC; go_simp
  intro g2
  simp only [Act.put, List.setIfInBounds_toArray, List.set_cons_zero, List.set_cons_succ]
  refine f_val (.pointer (some ⟨b, o, none⟩)) (by rfl) ?_ ?_
  · intro w' hC; clear hC; go_simp
  simp only [Act.put, List.setIfInBounds_toArray, List.set_cons_zero, List.set_cons_succ]
  refine f_val (.pointer (some ⟨b, o, none⟩)) (by rfl) ?_ ?_
  · intro w' hC; clear hC; go_simp
  simp only [Act.put, List.setIfInBounds_toArray, List.set_cons_zero, List.set_cons_succ]
  refine wpF_end ?_
  intro w3 hC hks
  have HCw3 := Lib.hid hC
  have HG2 := Lib.hid (Known.at hks 0 rfl)
  clear hC hks
  obtain ⟨hz2, hlow⟩ := HG2.out
  have hB3 : Whole w3 b t cs := HCw3.out.whole (HG.out.1.whole HX.out.1)
  have hob : o < cs.size := (Array.getElem?_eq_some_iff.1 HX.out.2.1).1
  have d0 := hB3.cell o
  have e0 := hB3.free o
  rw [HX.out.2.1] at d0
  have hbg : b ≠ g2 := fun e => by have := HG.out.1.size; have := HX.out.1.lt; omega
  have hs3 : (w3.setCell ⟨b, o, none⟩ (.slice (some ⟨g2, 0, none⟩) m m)).heap.size = w3.heap.size := by simp
  obtain ⟨W4, hW4⟩ : ∃ W4, w3.setCell ⟨b, o, none⟩ (.slice (some ⟨g2, 0, none⟩) m m) = W4 := ⟨_, rfl⟩
  have hB4 : Whole W4 b t (cs.setIfInBounds o (.slice (some ⟨g2, 0, none⟩) m m)) := by rw [← hW4]; exact hB3.put o _
  have hoth : ∀ k, k ≠ b → W4.heap[k]? = w3.heap[k]? := fun k hk => by rw [← hW4]; exact heap_setCell_other w3 ⟨b, o, none⟩ k _ (fun e => hk (by simpa using e))
  rw [hW4] at hs3
  have hsp4 : Spares (fun k => k = b) w W4 := ((Spares.grows (Grows.trans HG.out.1 HCw3.out)).trans ⟨by rw [← hW4]; rfl, by rw [← hW4]; rfl, by rw [← hW4]; rfl, by omega, fun k _ hk => hoth k hk⟩)
  have hcv4 : CellsV W4 S g cells vs := ((HX.out.2.2.2.2.1.grow HG.out.1).grow HCw3.out).same (by omega) fun k hk => hoth k fun e => by subst e; exact HX.out.2.2.2.2.2 hk
  have hz4 : Whole W4 g2 54 (zeroS m).toArray := (hoth g2 (Ne.symm hbg)).trans hz2
  have htbb : tb ≠ b := fun e => by have := HX.out.1.lt; have := HS.out; omega
  have hfbb : fb ≠ b := fun e => by have := HX.out.1.lt; have := HS.out; omega
  have ht4 : W4.cell? ⟨tb, 0, none⟩ = some (.pointer (some ⟨b, o, none⟩)) := (World.cell?_of_block (a := ⟨tb, 0, none⟩) (hoth tb htbb)).trans (HT.out w3 HCw3.out)
  have hf4 : Whole W4 fb 49 #[.slice (some ⟨g, 0, none⟩) N N, .int .i64 (K : Int)] := (hoth fb hfbb).trans (HCw3.out.whole HG.out.2.2.1)
  have hfbS : ¬ S fb := fun e => by have := HX.out.2.2.2.2.1.lt fb e; have := HS.out; omega
  have hrow : RowAt W4 fb 0 S g cells vs := ⟨by first | (rw [hf4.cell, HN.out.1]; done) | (rw [hf4.cell, HN.out.1]; rfl), by first | (rw [hf4.cell, HN.out.2.1]; done) | (rw [hf4.cell, HN.out.2.1]; rfl), hcv4, hfbS⟩
  have HE := Lib.hid (each_spread (tb := tb) W4 hrow ⟨HN.out.2.2.2.1.1, by have := HN.out.2.2.2.1.2; omega⟩ (Spr w b g g2 m tb t o (cs.setIfInBounds o (.slice (some ⟨g2, 0, none⟩) m m)) S cells vs)
    (fun l w' h => by obtain ⟨_, _, _, _, _, h, _⟩ := h; exact h) (fun l w' w'' h hg => h.grow hg)
    ⟨_, _, hB4, CellsV.made hz4, fun k hk => by omega, hcv4, ht4, hsp4⟩
    (fun done p w' hJ hr => by
      obtain ⟨S2, vs2, k1, k2, k3, k4, k5, k6⟩ := hJ
      obtain ⟨rest, hrest⟩ := hr
      have hpm : p ∈ cells.flatten := by rw [hrest]; simp
      have hlow2 : w.heap.size ≤ g2 := by have := HG.out.1.size; omega
      have hd : done.length + 1 ≤ cells.flatten.length := by rw [hrest]; simp
      have hnb : ¬ S2 b := fun e => by have := k3 b e; have := HX.out.1.lt; omega
      have hnt : ¬ S2 tb := fun e => by have := k3 tb e; have := HS.out; omega
      have hsl := spreadC_len m done
      refine (spread1_any (b := b) (o := o) (tb := tb) (S := S2) p w' hnb ?_ k2 k5 hnt (by rw [hsl]; exact HN.out.2.2.1.1) ⟨by rw [hsl]; exact HN.out.2.2.1.2, fun l hl => by have := spreadC_cell_le hl; have := HN.out.2.2.2.1.2; omega⟩ (HN.out.2.2.2.2.1 p hpm)).mono ?_
      · rw [k1.cell, hsl, Array.getElem?_setIfInBounds, if_pos rfl, if_pos hob]
      · rintro e w5 ⟨rfl, q1, vs', q2⟩
        refine ⟨rfl, (fun k => S2 k ∨ (w'.heap.size ≤ k ∧ k < w5.heap.size)), vs', (q1.same b k1.lt hnb).trans k1, ?_, ?_, k4.off q1 fun k hk e => ?_, (World.cell?_of_block (a := ⟨tb, 0, none⟩) (q1.same tb (World.block_lt_of_cell? w' _ k5) hnt)).trans k5, ?_⟩
        · rw [spreadC_snoc HN.out.2.2.1.1, ← hsl]
          simp only [spreadC_len] at q2 ⊢
          exact q2
        · rintro k (hk | hk)
          · exact k3 k hk
          · exact Nat.le_trans (Nat.le_of_lt (k2.lt g2 k2.gS)) hk.1
        · have := k3 k e
          have := HX.out.2.2.2.2.1.lt k hk
          omega
        · exact k6.then q1 fun q hq e => by have := k3 q e; omega))
  have HLOW := Lib.hid (show w.heap.size ≤ g2 from by have := HG.out.1.size; omega)
  clear hz2 hlow hB3 hbg hs3 hB4 hoth hsp4 hcv4 hz4 htbb hfbb ht4 hf4 hfbS hrow
  have hob2 := Lib.hid hob
  clear hob
  go_wp2_with (first | rw [hW4] | fail)
  refine HE.out.mono ?_
  rintro e w6 ⟨rfl, hJ⟩
  have HJ := Lib.hid hJ
  clear hJ HE
  go_wp2_with (fail)
  refine bodyPost_end (results_none rfl _ _ _) rfl ?_
  obtain ⟨S2, vs2, k1, k2, k3, k4, k5, k6⟩ := HJ.out
  refine ⟨rfl, k6, S2, ⟨g2, vs2, _, k1, ?_, ?_, ?_, k2, fun e => ?_⟩, fun k hk => ?_⟩
  · rw [spreadC_len, Array.getElem?_setIfInBounds, if_pos rfl, if_pos hob2.out]
  · rw [Array.getElem?_setIfInBounds, if_neg (by omega), HX.out.2.2.1, HN.out.2.2.2.2.2, HN.out.2.1]
  · intro i h1 h2
    rw [Array.getElem?_setIfInBounds, if_neg (by omega)]
    exact HX.out.2.2.2.1 i h1 h2
  · have := k3 b e; have := HLOW.out; have := HX.out.1.lt; omega
  · have := k3 k hk; have := HLOW.out; omega
end Go.Proofs.Ytadgbobemmfjoaa
