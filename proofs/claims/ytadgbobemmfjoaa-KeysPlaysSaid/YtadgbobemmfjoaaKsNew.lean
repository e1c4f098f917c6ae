/-
  keys.New.
-/
import Derived.Test.YtadgbobemmfjoaaKsMany
namespace Go.Proofs.Ytadgbobemmfjoaa
open Go.RowKit
set_option linter.unusedVariables false
set_option linter.unusedSimpArgs false
attribute [local irreducible] wpF

theorem each_nil {b o tb : Nat} (w : World) (hc : w.cell? ⟨b, o, none⟩ = some (.slice none 0 0)) :
    Calls Try.prog 36 #[.pointer (some ⟨b, o, none⟩), .func (.func 37) #[] #[.pointer (some ⟨tb, 0, none⟩)]] w fun e w' => e = .returned (.tuple #[]) ∧ w' = w := by
  go_enter Try.func36, Try.ntmps36
  go_wp2_with (fail)
  go_loopw [13] (fun vi wr => vi = .int .i64 0 ∧ wr = w) (fun vi _ => 0)
  case atStart => exact ⟨rfl, rfl⟩
  case round =>
    obtain ⟨rfl, rfl⟩ := hrel
    go_wp2_with (fail)
    refine bodyPost_end (results_none rfl _ _ _) rfl ?_
    exact ⟨rfl, rfl⟩
set_option maxHeartbeats 1000000 in
set_option maxRecDepth 100000 in
theorem spread_nil {b o : Nat} {t : TypeId} {cs : Array Value} (w : World) (hW : Whole w b t cs) (hc0 : cs[o]? = some (.slice none 0 0)) (hc1 : cs[o + 1]? = some (.int .i64 0)) :
    Calls Try.prog 27 #[.pointer (some ⟨b, o, none⟩), .int .i64 1] w fun e w' => e = .returned (.tuple #[]) ∧ Spares (fun k => k = b) w w' ∧
      ∃ g2, Whole w' b t (cs.setIfInBounds o (.slice (some ⟨g2, 0, none⟩) 1 1)) ∧ Whole w' g2 54 (zeroS 1).toArray ∧ w.heap.size ≤ g2 := by
  obtain ⟨K0, hK0⟩ : ∃ K0 : Int, 0 = K0 := ⟨_, rfl⟩
  rw [hK0] at hc1
  clear hK0
  have hg1 := grows_alloc w (.cells #[.pointer (some ⟨b, o, none⟩)] 57)
  have hb1 := Boxed.new w 57 (.pointer (some ⟨b, o, none⟩))
  obtain ⟨W1, hW1⟩ : ∃ W1, w.alloc (.cells #[.pointer (some ⟨b, o, none⟩)] 57) = W1 := ⟨_, rfl⟩
  rw [hW1] at hg1 hb1
  have hs1 : W1.heap.size = w.heap.size + 1 := by rw [← hW1, World.size_alloc]
  obtain ⟨tb, htb⟩ : ∃ tb, w.heap.size = tb := ⟨_, rfl⟩
  rw [htb] at hb1
  have ct := hb1.cell
  have c0 := (hg1.whole hW).cell o
  have c1 := (hg1.whole hW).cell (o + 1)
  rw [hc0] at c0
  rw [hc1] at c1
  have hg2 := grows_alloc W1 (.cells #[.slice none 0 0, .int .i64 K0] 49)
  have hm2 := Whole.made W1 49 #[.slice none 0 0, .int .i64 K0]
  obtain ⟨W2, hW2⟩ : ∃ W2, W1.alloc (.cells #[.slice none 0 0, .int .i64 K0] 49) = W2 := ⟨_, rfl⟩
  rw [hW2] at hg2 hm2
  have hs2 : W2.heap.size = W1.heap.size + 1 := by rw [← hW2, World.size_alloc]
  obtain ⟨fb, hfb⟩ : ∃ fb, W1.heap.size = fb := ⟨_, rfl⟩
  rw [hfb] at hm2
  have HX := Lib.hid (And.intro hW hc0)
  have HG := Lib.hid (And.intro (Grows.trans hg1 hg2) (And.intro hg2 hm2))
  have HS := Lib.hid (show tb < fb ∧ fb < W2.heap.size ∧ w.heap.size ≤ tb from by omega)
  have HT := Lib.hid (show ∀ w', Grows W2 w' → w'.cell? ⟨tb, 0, none⟩ = some (.pointer (some ⟨b, o, none⟩)) from fun w' hg => ((Grows.trans hg2 hg).cell (p := ⟨tb, 0, none⟩) hb1.lt).trans ct)
  have HMK := Lib.hid (show ∀ w', (Instr.makeSlice 47 (.int .i64 1) (.int .i64 1)).run Try.prog w' = .ok (.slice (some ⟨w'.heap.size, 0, none⟩) 1 1) (w'.alloc (.cells (zeroS 1).toArray 54)) from fun w' => make_cells 1 (by omega) w')
  clear hW hc0 hc1 hg1 hg2 hm2 hb1 hs1 hs2
  go_enter Try.func27, Try.ntmps27
  go_wp2_with (first | rw [hW1] | rw [hW2] | fail)
  clear ct c0 c1 hW1 hW2 htb hfb
  refine wp_region_facts_tail (E := Grows) 5 [valFact (.pointer (some ⟨b, o, none⟩)), valFact (.int .i64 1), blkFrom W2.heap.size (54) ((zeroS 1).toArray) 1, valFact (.pointer (some ⟨b, o, none⟩)), valFact (.pointer (some ⟨b, o, none⟩))] mixed (by kernel_rfl) (fun _ _ _ => Grows.trans) (grows_drew _) ?_
  simp only [List.take_succ_cons, List.take_zero, List.drop_succ_cons, List.drop_zero]
  refine f_val (.pointer (some ⟨b, o, none⟩)) (by rfl) ?_ ?_
  · intro w' hC; have z := HT.out w' hC; clear hC; go_simp
  simp only [Act.put, List.setIfInBounds_toArray, List.set_cons_zero, List.set_cons_succ]
  refine f_val (.int .i64 1) (by rfl) ?_ ?_
  · intro w' hC; clear hC; go_simp
  simp only [Act.put, List.setIfInBounds_toArray, List.set_cons_zero, List.set_cons_succ]
  refine f_madeN (54) ((zeroS 1).toArray) 1 (by rfl) ?_ ?_
  · intro w' hC; have z := HMK.out w'; clear hC; go_simp
  intro g2
  simp only [Act.put, List.setIfInBounds_toArray, List.set_cons_zero, List.set_cons_succ]
  refine f_val (.pointer (some ⟨b, o, none⟩)) (by rfl) ?_ ?_
  · intro w' hC; clear hC; go_simp
  simp only [Act.put, List.setIfInBounds_toArray, List.set_cons_zero, List.set_cons_succ]
  refine f_val (.pointer (some ⟨b, o, none⟩)) (by rfl) ?_ ?_
  · intro w' hC; clear hC; go_simp
  simp only [Act.put, List.setIfInBounds_toArray, List.set_cons_zero, List.set_cons_succ]
  refine wpF_end ?_
  intro w3 hC hks
  have HCw3 := Lib.hid hC
  have HG2 := Lib.hid (Known.at hks 0 rfl)
  clear hC hks
  obtain ⟨hz2, hlow⟩ := HG2.out
  have hB3 : Whole w3 b t cs := HCw3.out.whole (HG.out.1.whole HX.out.1)
  have d0 := hB3.cell o
  have e0 := hB3.free o
  rw [HX.out.2] at d0
  have hbg : b ≠ g2 := fun e => by have := HG.out.1.size; have := HX.out.1.lt; omega
  have hs3 : (w3.setCell ⟨b, o, none⟩ (.slice (some ⟨g2, 0, none⟩) 1 1)).heap.size = w3.heap.size := by simp
  obtain ⟨W4, hW4⟩ : ∃ W4, w3.setCell ⟨b, o, none⟩ (.slice (some ⟨g2, 0, none⟩) 1 1) = W4 := ⟨_, rfl⟩
  have hB4 : Whole W4 b t (cs.setIfInBounds o (.slice (some ⟨g2, 0, none⟩) 1 1)) := by rw [← hW4]; exact hB3.put o _
  have hoth : ∀ k, k ≠ b → W4.heap[k]? = w3.heap[k]? := fun k hk => by rw [← hW4]; exact heap_setCell_other w3 ⟨b, o, none⟩ k _ (fun e => hk (by simpa using e))
  rw [hW4] at hs3
  have hsp4 : Spares (fun k => k = b) w W4 := ((Spares.grows (Grows.trans HG.out.1 HCw3.out)).trans ⟨by rw [← hW4]; rfl, by rw [← hW4]; rfl, by rw [← hW4]; rfl, by omega, fun k _ hk => hoth k hk⟩)
  have hz4 : Whole W4 g2 54 (zeroS 1).toArray := (hoth g2 (Ne.symm hbg)).trans hz2
  have hfbb : fb ≠ b := fun e => by have := HX.out.1.lt; have := HS.out; omega
  have hf4 : Whole W4 fb 49 #[.slice none 0 0, .int .i64 K0] := (hoth fb hfbb).trans (HCw3.out.whole HG.out.2.2)
  have HE := Lib.hid (each_nil (tb := tb) W4 (show W4.cell? ⟨fb, 0, none⟩ = _ from by rw [hf4.cell]; rfl))
  have H4 := Lib.hid (And.intro hB4 (And.intro hz4 (And.intro hsp4 (show w.heap.size ≤ g2 from by have := HG.out.1.size; omega))))
  clear hz2 hlow hB3 hbg hs3 hB4 hoth hsp4 hz4 hfbb hf4
  go_wp2_with (first | rw [hW4] | fail)
  refine HE.out.mono ?_
  rintro e w6 ⟨rfl, rfl⟩
  go_wp2_with (fail)
  refine bodyPost_end (results_none rfl _ _ _) rfl ?_
  exact ⟨rfl, H4.out.2.2.1, g2, H4.out.1, H4.out.2.1, H4.out.2.2.2⟩
/-- Rows of nothing, and those that have been made. -/
def zeroD : List Value := (List.range 64).flatMap fun _ => [.slice none 0 0, .int .i64 0]
structure Mid (w0 w : World) (d i : Nat) (G : Nat → Nat) (cs : Array Value) : Prop where
  blk : Whole w d 52 cs
  size : cs.size = 128
  low : w0.heap.size ≤ d
  grows : Below w0.heap.size w0 w
  done0 : ∀ r, r < i → cs[r * 2]? = some (.slice (some ⟨G r, 0, none⟩) 1 1)
  rest0 : ∀ r, i ≤ r → r < 64 → cs[r * 2]? = some (.slice none 0 0)
  one : ∀ r, r < 64 → cs[r * 2 + 1]? = some (.int .i64 0)
  made : ∀ r, r < i → Whole w (G r) 54 (zeroS 1).toArray ∧ d < G r
  apart : ∀ r r', r < i → r' < i → G r = G r' → r = r'
theorem Mid.next {w0 w w' : World} {d i : Nat} {G : Nat → Nat} {cs : Array Value} (h : Mid w0 w d i G cs) (hi : i < 64) {g2 : Nat} (hs : Spares (fun k => k = d) w w') (h1 : Whole w' d 52 (cs.setIfInBounds (i * 2) (.slice (some ⟨g2, 0, none⟩) 1 1))) (h2 : Whole w' g2 54 (zeroS 1).toArray) (h3 : w.heap.size ≤ g2) :
    Mid w0 w' d (i + 1) (fun r => if r = i then g2 else G r) (cs.setIfInBounds (i * 2) (.slice (some ⟨g2, 0, none⟩) 1 1)) := by
  have hd := h.blk.lt
  refine ⟨h1, by rw [Array.size_setIfInBounds]; exact h.size, h.low, h.grows.trans (hs.below h.grows.size fun k hk e => by have := h.low; omega), ?_, ?_, ?_, ?_, ?_⟩
  · intro r hr
    rw [Array.getElem?_setIfInBounds]
    by_cases e : r = i
    · subst e; rw [if_pos rfl, if_pos (by have := h.size; omega)]; simp
    · rw [if_neg (by omega), if_neg e]; exact h.done0 r (by omega)
  · intro r hr hr2
    rw [Array.getElem?_setIfInBounds, if_neg (by omega)]
    exact h.rest0 r (by omega) hr2
  · intro r hr
    rw [Array.getElem?_setIfInBounds, if_neg (by omega)]
    exact h.one r hr
  · intro r hr
    by_cases e : r = i
    · simp only [if_pos e]; exact ⟨h2, by omega⟩
    · simp only [if_neg e]
      have h4 := h.made r (by omega)
      exact ⟨(hs.same _ h4.1.lt (by omega)).trans h4.1, h4.2⟩
  · intro r r' hr hr' e
    by_cases e1 : r = i <;> by_cases e2 : r' = i
    · rw [e1, e2]
    · simp only [if_pos e1, if_neg e2] at e
      have := (h.made r' (by omega)).1.lt; omega
    · simp only [if_neg e1, if_pos e2] at e
      have := (h.made r (by omega)).1.lt; omega
    · simp only [if_neg e1, if_neg e2] at e
      exact h.apart r r' (by omega) (by omega) e
theorem Mid.dir {w0 w : World} {d : Nat} {G : Nat → Nat} {cs : Array Value} (h : Mid w0 w d 64 G cs) : ∃ own, DirIn w d own [] ∧ ∀ k, own k → w0.heap.size ≤ k := by
  refine ⟨fun k => ∃ r, r < 64 ∧ k = G r, ⟨⟨fun _ => [[]], G, fun r k => k = G r, fun _ => zeroS 1, cs, ⟨h.blk, h.size, fun r hr => h.done0 r hr, fun r hr => h.one r hr, fun r hr => ?_, fun r hr k hk => ⟨r, hr, hk⟩, fun r r' k hr hr' h1 h2 => h.apart r r' hr hr' (h1.symm.trans h2), ?_, ?_⟩, KsOk.new⟩, fun p hp => by cases hp⟩, ?_⟩
  · have h1 := CellsV.made (h.made r hr).1
    rw [spreadC_nil] at h1
    exact h1
  · rintro ⟨r, hr, e⟩
    have := (h.made r hr).2
    omega
  · rintro k ⟨r, hr, rfl⟩
    exact (h.made r hr).1.lt
  · rintro k ⟨r, hr, rfl⟩
    have := (h.made r hr).2
    have := h.low
    omega
theorem zeroD_one {r : Nat} (hr : r < 64) : zeroD.toArray[r * 2]? = some (.slice none 0 0) ∧ zeroD.toArray[r * 2 + 1]? = some (.int .i64 0) := by
  have h1 : ∀ r, r < 64 → (zeroD[r * 2]? = some (Value.slice none 0 0) ∧ zeroD[r * 2 + 1]? = some (Value.int .i64 0)) := by
    intro r hr
    have hl : ∀ a : Nat, ([Value.slice none 0 0, .int .i64 0] : List Value).length = 2 := fun _ => rfl
    have h2 := flat_get (enc := fun _ : Nat => [Value.slice none 0 0, .int .i64 0]) (k := 2) hl (List.range 64) r 0 r (by rw [List.getElem?_range hr]) (by omega)
    have h3 := flat_get (enc := fun _ : Nat => [Value.slice none 0 0, .int .i64 0]) (k := 2) hl (List.range 64) r 1 r (by rw [List.getElem?_range hr]) (by omega)
    exact ⟨h2, h3⟩
  rw [List.getElem?_toArray, List.getElem?_toArray]
  exact h1 r hr
set_option maxHeartbeats 2000000 in
set_option maxRecDepth 100000 in
theorem knew_any (w : World) : Calls Try.prog 10 #[] w fun e w' => ∃ d own, e = .returned (.pointer (some ⟨d, 0, none⟩)) ∧ DirIn w' d own [] ∧ w.heap.size ≤ d ∧ (∀ k, own k → w.heap.size ≤ k) ∧ Grows w w' := by
  have hz : Try.zeroCells52 = zeroD.toArray := by kernel_rfl
  have hg1 := grows_alloc w (.cells Try.zeroCells52 52)
  have hm1 := Whole.made w 52 Try.zeroCells52
  obtain ⟨W1, hW1⟩ : ∃ W1, w.alloc (.cells Try.zeroCells52 52) = W1 := ⟨_, rfl⟩
  rw [hW1] at hg1 hm1
  rw [hz] at hm1
  obtain ⟨d, hd⟩ : ∃ d, w.heap.size = d := ⟨_, rfl⟩
  rw [hd] at hm1
  have HMID := Lib.hid (show Mid w W1 d 0 (fun _ => 0) zeroD.toArray from ⟨hm1, by rw [List.size_toArray]; rfl, by omega, hg1, fun r hr => by omega, fun r _ hr => (zeroD_one hr).1, fun r hr => (zeroD_one hr).2, fun r hr => by omega, fun r r' hr => by omega⟩)
  clear hg1 hm1 hz
  go_enter Try.func10, Try.ntmps10
  go_wp2_with (first | rw [hW1] | fail)
  clear hW1 hd
  go_loopw [5] (fun vi wr => ∃ (i : Nat) (G : Nat → Nat) (cs : Array Value), i ≤ 64 ∧ vi = .int .i64 (i : Int) ∧ Hid (Mid w wr d i G cs)) (fun vi _ => 64 - (intOf vi).toNat)
  case atStart => exact ⟨0, _, _, Nat.zero_le _, rfl, HMID⟩
  case round =>
    obtain ⟨i, G, cs, hi, rfl, HJ⟩ := hrel
    by_cases hlt : i < 64
    · have HSP := Lib.hid (spread_nil wr HJ.out.blk (HJ.out.rest0 i (Nat.le_refl _) hlt) (HJ.out.one i hlt))
      have k0 : (0 : Int) ≤ (i : Int) := by omega
      have k1 : (i : Int) < 64 := by omega
      obtain ⟨o, ho⟩ : ∃ o, i * 2 = o := ⟨_, rfl⟩
      rw [ho] at HSP
      have HO := Lib.hid ho
      go_wp2_with (first | rw [ho] | fail)
      refine HSP.out.mono ?_
      rintro e w2 ⟨rfl, hs, g2, h1, h2, h3⟩
      have HN := Lib.hid (HJ.out.next hlt hs (by rw [HO.out]; exact h1) h2 h3)
      clear hs h1 h2 h3
      go_wp2_with (fail)
      go_roundw
      case rel => exact ⟨i + 1, _, _, by omega, by first | rfl | go_num, HN⟩
      case measure => simp [intOf]; omega
    · go_wp2_with (fail)
      go_ret
      obtain rfl : i = 64 := by omega
      obtain ⟨own, h1, h2⟩ := HJ.out.dir
      exact ⟨d, own, rfl, h1, HJ.out.low, h2, HJ.out.grows⟩
end Go.Proofs.Ytadgbobemmfjoaa
