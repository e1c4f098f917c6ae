/-
  book's Kill, Put.
-/
import Derived.Test.YtlldcogkcjnejaaBkOf
import Derived.Test.YtlldcogkcjnejaaFactsTail
import Derived.Test.YtlldcogkcjnejaaSteps
namespace Go.Proofs.Ytlldcogkcjnejaa
open Go.RowKit Go.Maps Go.Shelf
set_option linter.unusedVariables false
set_option linter.unusedSimpArgs false

theorem wrapI {x : Int} (h1 : -9223372036854775808 ≤ x) (h2 : x ≤ 9223372036854775807) : IntKind.i64.wrap x = x ∧ wrap64 x = x := by
  rw [IntWalk.i64_in _ (by omega), IntWalk.wrap64_in _ (by omega)]
  exact ⟨rfl, rfl⟩
theorem BkTo.keep {w w' : World} {p b nn : Nat} {l : List Us} (h : BkAt w p b nn l) (r : Bool) (hg : Grows w w') : BkTo w p b nn l r (.returned (.bool r)) w' := ⟨⟨rfl, (h.grow hg).more, Spares.grows hg⟩, fun _ => hg⟩
theorem BkTo.done {w w3 w4 : World} {p b nn : Nat} {l : List Us} {x : Us} {k : Int} (h : BkAt w p b nn l) (hg : Grows w w3) (ho : w4.ownsMap Try.prog 3 (usR (H := Unit)) b (nn + 1) ((encU l).put (.int .i64 k) (usD x))) (ht : w3.mapTurned w4 b) (hx : x.seg = k) (hok : UOk ((nn + 1) * 1099511627776) (nn + 1) (uput x l)) :
    BkTo w p b nn (uput x l) true (.returned (.bool true)) w4 := by
  subst hx
  rw [put_encU] at ho
  have h3 := h.grow hg
  exact ⟨⟨rfl, ⟨((turned_spares ht).same p h3.ltp h3.apart).trans h3.box, ho, h.apart, hok⟩, (Spares.grows hg).trans (turned_spares ht)⟩, fun h => by cases h⟩
theorem use_seg {k : Int} {l : List Us} (hr : RiseU l) (h : hasU k l = true) : (useOf k l).seg = k := by
  unfold hasU at h
  obtain ⟨y, hy⟩ := Option.isSome_iff_exists.1 h
  unfold useOf
  rw [hy]
  exact ((ufind_some hr).1 hy).2
set_option maxRecDepth 100000 in
set_option maxHeartbeats 1000000 in
theorem kill_use {p b nn : Nat} {l : List Us} {w : World} (h : BkAt w p b nn l) (hnn : nn ≤ 1000000) {k : Int} (h1 : -9223372036854775808 ≤ k) (h2 : k ≤ 9223372036854775807) (n : Int) :
    Calls Try.prog 12 #[.pointer (some ⟨p, 0, none⟩), .int .i64 k, .int .i64 n] w (BkTo w p b nn (killU k n l) (killB k n l)) := by
  have hkey := keyIntU h1 h2
  have hl1 := (look_use h.map hkey).1
  have hc1 := h.box.cell
  obtain ⟨u1, u2, u3⟩ := h.ok.use k
  have hsg := use_seg h.ok.rise (k := k)
  obtain ⟨hb, hhb⟩ : ∃ x, hasU k l = x := ⟨_, rfl⟩
  obtain ⟨⟨s1, a1, v0⟩, hu⟩ : ∃ u, useOf k l = u := ⟨_, rfl⟩
  rw [hhb, hu] at hl1
  rw [hhb, hu] at hsg
  rw [hu] at u1 u2 u3
  dsimp only at u1 u2 u3 hsg
  have hg1 := grows_alloc w (.cells #[.int .i64 s1, .int .i64 a1, .int .i64 v0] 34)
  have hB1 := h.grow hg1
  have hm1 := Whole.made w 34 #[.int .i64 s1, .int .i64 a1, .int .i64 v0]
  obtain ⟨W1, hW1⟩ : ∃ W1, w.alloc (.cells #[.int .i64 s1, .int .i64 a1, .int .i64 v0] 34) = W1 := ⟨_, rfl⟩
  rw [hW1] at hg1 hB1 hm1
  have c2 := hm1.cell 2
  simp only [List.getElem?_toArray, List.getElem?_cons_zero, List.getElem?_cons_succ] at c2
  have HX := Lib.hid (And.intro hg1 (And.intro hB1 (And.intro hm1 (And.intro h hnn))))
  have HU := Lib.hid (And.intro hhb (And.intro hu hsg))
  have HB := Lib.hid (And.intro u1 (And.intro u2 u3))
  have hkB : ∀ r, killB k n l = r → hb = false ∨ n < 0 ∨ v0 < n → r = false := fun r e hh => by
    rw [← e]
    unfold killB
    rw [hhb, hu]
    rcases hh with rfl | hh | hh
    · rfl
    · rw [Bool.and_eq_false_iff]; right; simp; omega
    · rw [Bool.and_eq_false_iff]; right; simp; omega
  have HK := Lib.hid hkB
  clear h hhb hu hg1 hB1 hm1 hnn u1 u2 u3 hkB hsg
  unfold usV at hl1
  dsimp only at hl1
  by_cases hall : hb = true ∧ 0 ≤ n ∧ n ≤ v0
  rotate_left 1
  · obtain ⟨r, hr⟩ : ∃ r, killB k n l = r := ⟨_, rfl⟩
    have hr0 : r = false := HK.out r hr (by
      cases hb
      · exact .inl rfl
      · by_cases q : n < 0
        · exact .inr (.inl q)
        · by_cases q2 : v0 < n
          · exact .inr (.inr q2)
          · exact absurd ⟨rfl, by omega, by omega⟩ hall)
    have hl' : killU k n l = l := by unfold killU; rw [hr, hr0, if_neg (by decide)]
    rw [hl', hr, hr0]
    have HR := Lib.hid hall
    clear hr hr0 hl' hall
    cases hb
    · go_enter Try.func12, Try.ntmps12
      go_wp2_with (first | rw [hW1] | fail)
      go_ret
      exact BkTo.keep HX.out.2.2.2.1 false HX.out.1
    by_cases hn : n < 0
    · go_enter Try.func12, Try.ntmps12
      go_wp2_with (first | rw [hW1] | fail)
      go_ret
      exact BkTo.keep HX.out.2.2.2.1 false HX.out.1
    have hv : v0 < n := by
      by_cases q : v0 < n
      · exact q
      · exact absurd ⟨rfl, by omega, by omega⟩ HR.out
    go_enter Try.func12, Try.ntmps12
    go_wp2_with (first | rw [hW1] | fail)
    go_ret
    exact BkTo.keep HX.out.2.2.2.1 false HX.out.1
  obtain ⟨rfl, hn, hv⟩ := hall
  have hk1 : killB k n l = true := by
    unfold killB
    rw [HU.out.1, HU.out.2.1]
    simp
    omega
  have hs : s1 = k := HU.out.2.2 rfl
  have hl' : killU k n l = uput ⟨s1, a1, v0 - n⟩ l := by
    unfold killU
    rw [if_pos hk1, HU.out.2.1, hs]
  have HOK := Lib.hid (HX.out.2.2.2.1.more.ok.kill k n)
  rw [hl'] at HOK
  rw [hk1, hl']
  have HSG := Lib.hid hs
  clear hl' hk1 hs
  obtain ⟨w1, w2⟩ := wrapI (x := v0 - n) (by have := HB.out; omega) (by have := HB.out; omega)
  obtain ⟨d, hd⟩ : ∃ d, v0 - n = d := ⟨_, rfl⟩
  rw [hd] at w1 w2 HOK ⊢
  have hm2 : Whole (W1.setCell ⟨w.heap.size, 2, none⟩ (.int .i64 d)) w.heap.size 34 #[.int .i64 s1, .int .i64 a1, .int .i64 d] := HX.out.2.2.1.put 2 _
  have hg2 : Grows w (W1.setCell ⟨w.heap.size, 2, none⟩ (.int .i64 d)) := Below.setCell (p := ⟨w.heap.size, 2, none⟩) HX.out.1 (Nat.le_refl _) _
  obtain ⟨W2, hW2⟩ : ∃ W2, W1.setCell ⟨w.heap.size, 2, none⟩ (.int .i64 d) = W2 := ⟨_, rfl⟩
  rw [hW2] at hm2 hg2
  have hB2 := HX.out.2.2.2.1.grow hg2
  have hval := usR_mk (H := Unit) ⟨s1, a1, d⟩
  unfold usV at hval
  dsimp only at hval
  have hnm : nn < maxLen := by have := HX.out.2.2.2.2; unfold maxLen; omega
  have H2 := Lib.hid (And.intro hB2 (And.intro hg2 hm2))
  have hfr := HX.out.2.2.1.free 2
  clear hB2 hg2 hm2
  go_enter Try.func12, Try.ntmps12
  go_wp2_with (first
    | rw [hW1]
    | rw [hW2]
    | fail)
  clear hW1 hW2 hc1 hl1 c2 hfr
  refine wp_region_facts_tail (E := Grows) 6 [valFact (.pointer (some ⟨p, 0, none⟩)), valFact (.pointer (some ⟨p, 0, none⟩)), valFact (.pointer (some ⟨p, 0, none⟩)), valFact (.map (some b)), valFact (.int .i64 k), valFact (.agg #[.int .i64 s1, .int .i64 a1, .int .i64 d])] mixed (by kernel_rfl) (fun _ _ _ => Grows.trans) (grows_drew _) ?_
  simp only [List.take_succ_cons, List.take_zero, List.drop_succ_cons, List.drop_zero]
  refine f_val (.pointer (some ⟨p, 0, none⟩)) (by rfl) ?_ ?_
  · intro w' hC; clear hC; go_simp
  simp only [Act.put, List.setIfInBounds_toArray, List.set_cons_zero, List.set_cons_succ]
  refine f_val (.pointer (some ⟨p, 0, none⟩)) (by rfl) ?_ ?_
  · intro w' hC; clear hC; go_simp
  simp only [Act.put, List.setIfInBounds_toArray, List.set_cons_zero, List.set_cons_succ]
  refine f_val (.pointer (some ⟨p, 0, none⟩)) (by rfl) ?_ ?_
  · intro w' hC; clear hC; go_simp
  simp only [Act.put, List.setIfInBounds_toArray, List.set_cons_zero, List.set_cons_succ]
  refine f_val (.map (some b)) (by rfl) ?_ ?_
  · intro w' hC; have z := (H2.out.1.grow hC).box.cell; clear hC; go_simp
  simp only [Act.put, List.setIfInBounds_toArray, List.set_cons_zero, List.set_cons_succ]
  refine f_val (.int .i64 k) (by rfl) ?_ ?_
  · intro w' hC; clear hC; go_simp
  simp only [Act.put, List.setIfInBounds_toArray, List.set_cons_zero, List.set_cons_succ]
  refine f_val (.agg #[.int .i64 s1, .int .i64 a1, .int .i64 d]) (by rfl) ?_ ?_
  · intro w' hC; have q := hC.whole H2.out.2.2; have q0 := q.cell 0; have q1 := q.cell 1; have q2 := q.cell 2; simp only [List.getElem?_toArray, List.getElem?_cons_zero, List.getElem?_cons_succ] at q0 q1 q2; clear hC; go_simp
  simp only [Act.put, List.setIfInBounds_toArray, List.set_cons_zero, List.set_cons_succ]
  refine wpF_end ?_
  intro w3 hC hks
  have HCw3 := Lib.hid hC
  clear hC hks
  have hown3 := own_sameU H2.out.1.map (HCw3.out.block b H2.out.1.ltb)
  go_wp2_with (first
    | (at_mapUpdate; refine wpList_mapUpdate_in _ rfl _ _ _ 50 rfl 3 _ (int_keyed Try.underlying3) Try.underlying50 _ b nn _ rfl hown3 hnm _ _ _ rfl rfl hkey _ _ hval ?_; intro w4 hown4 hturn4)
    | fail)
  go_ret
  exact BkTo.done (x := ⟨s1, a1, d⟩) HX.out.2.2.2.1 (Grows.trans H2.out.2.1 HCw3.out) hown4 hturn4 HSG.out HOK.out

set_option maxRecDepth 100000 in
set_option maxHeartbeats 1000000 in
theorem put_use {p b nn : Nat} {l : List Us} {w : World} (h : BkAt w p b nn l) (hnn : nn ≤ 1000000) {k : Int} (h1 : -9223372036854775808 ≤ k) (h2 : k ≤ 9223372036854775807) (n : Int) (live : Bool) :
    Calls Try.prog 16 #[.pointer (some ⟨p, 0, none⟩), .int .i64 k, .int .i64 n, .bool live] w (BkTo w p b nn (putU k n live l) (putB k n l)) := by
  have hkey := keyIntU h1 h2
  have hl1 := (look_use h.map hkey).2
  have hc1 := h.box.cell
  obtain ⟨u1, u2, u3⟩ := h.ok.use k
  obtain ⟨⟨s0, a0, v0⟩, hu⟩ : ∃ u, useOf k l = u := ⟨_, rfl⟩
  rw [hu] at hl1
  rw [hu] at u1 u2 u3
  dsimp only at u1 u2 u3
  have hg1 := grows_alloc w (.cells #[.int .i64 s0, .int .i64 a0, .int .i64 v0] 34)
  have hB1 := h.grow hg1
  have hm1 := Whole.made w 34 #[.int .i64 s0, .int .i64 a0, .int .i64 v0]
  obtain ⟨W1, hW1⟩ : ∃ W1, w.alloc (.cells #[.int .i64 s0, .int .i64 a0, .int .i64 v0] 34) = W1 := ⟨_, rfl⟩
  rw [hW1] at hg1 hB1 hm1
  have c0 := hm1.cell 0
  have c1 := hm1.cell 1
  have c2 := hm1.cell 2
  simp only [List.getElem?_toArray, List.getElem?_cons_zero, List.getElem?_cons_succ] at c0 c1 c2
  have HX := Lib.hid (And.intro hg1 (And.intro hB1 (And.intro hm1 (And.intro h hnn))))
  have HU := Lib.hid hu
  have HB := Lib.hid (And.intro u1 (And.intro u2 u3))
  have HK := Lib.hid (show putB k n l = decide (0 ≤ k ∧ k ≤ 99999999 ∧ 0 ≤ n ∧ n ≤ 1099511627776 ∧ a0 + n ≤ 1125899906842624) by unfold putB; rw [hu])
  clear h hu hg1 hB1 hm1 hnn u1 u2 u3
  unfold usV at hl1
  dsimp only at hl1
  have no : ∀ {q : Prop} [Decidable q], putB k n l = decide q → ¬ q → putB k n l = false ∧ putU k n live l = l := fun {q} _ e hq => by
    have h0 : putB k n l = false := by rw [e]; exact decide_eq_false hq
    exact ⟨h0, by unfold putU; rw [h0, if_neg (by decide)]⟩
  have NO := Lib.hid (fun hq => no HK.out hq)
  clear no
  by_cases q1 : k < 0
  · obtain ⟨e1, e2⟩ := NO.out (by omega)
    rw [e1, e2]
    clear e1 e2
    go_enter Try.func16, Try.ntmps16
    go_wp2_with (first | rw [hW1] | fail)
    go_ret
    exact BkTo.keep HX.out.2.2.2.1 false HX.out.1
  by_cases q2 : 99999999 < k
  · obtain ⟨e1, e2⟩ := NO.out (by omega)
    rw [e1, e2]
    clear e1 e2
    go_enter Try.func16, Try.ntmps16
    go_wp2_with (first | rw [hW1] | fail)
    go_ret
    exact BkTo.keep HX.out.2.2.2.1 false HX.out.1
  by_cases q3 : n < 0
  · obtain ⟨e1, e2⟩ := NO.out (by omega)
    rw [e1, e2]
    clear e1 e2
    go_enter Try.func16, Try.ntmps16
    go_wp2_with (first | rw [hW1] | fail)
    go_ret
    exact BkTo.keep HX.out.2.2.2.1 false HX.out.1
  by_cases q4 : 1099511627776 < n
  · obtain ⟨e1, e2⟩ := NO.out (by omega)
    rw [e1, e2]
    clear e1 e2
    go_enter Try.func16, Try.ntmps16
    go_wp2_with (first | rw [hW1] | fail)
    go_ret
    exact BkTo.keep HX.out.2.2.2.1 false HX.out.1
  obtain ⟨w1, w2⟩ := wrapI (x := a0 + n) (by have := HB.out; omega) (by have := HB.out; omega)
  obtain ⟨a1, ha1⟩ : ∃ d, a0 + n = d := ⟨_, rfl⟩
  have HA := Lib.hid ha1
  rw [ha1] at w1 w2
  by_cases q5 : 1125899906842624 < a1
  · obtain ⟨e1, e2⟩ := NO.out (by omega)
    rw [e1, e2]
    clear e1 e2
    go_enter Try.func16, Try.ntmps16
    go_wp2_with (first | rw [hW1] | fail)
    go_ret
    exact BkTo.keep HX.out.2.2.2.1 false HX.out.1
  have hk1 : putB k n l = true := by rw [HK.out]; exact decide_eq_true (by have := HA.out; omega)
  have hm2 : Whole ((W1.setCell ⟨w.heap.size, 0, none⟩ (.int .i64 k)).setCell ⟨w.heap.size, 1, none⟩ (.int .i64 a1)) w.heap.size 34 #[.int .i64 k, .int .i64 a1, .int .i64 v0] := (HX.out.2.2.1.put 0 _).put 1 _
  have hg2 : Grows w ((W1.setCell ⟨w.heap.size, 0, none⟩ (.int .i64 k)).setCell ⟨w.heap.size, 1, none⟩ (.int .i64 a1)) := Below.setCell (p := ⟨w.heap.size, 1, none⟩) (Below.setCell (p := ⟨w.heap.size, 0, none⟩) HX.out.1 (Nat.le_refl _) _) (Nat.le_refl _) _
  obtain ⟨W2, hW2⟩ : ∃ W2, (W1.setCell ⟨w.heap.size, 0, none⟩ (.int .i64 k)).setCell ⟨w.heap.size, 1, none⟩ (.int .i64 a1) = W2 := ⟨_, rfl⟩
  rw [hW2] at hm2 hg2
  have f0 := HX.out.2.2.1.free 0
  have f1 := (HX.out.2.2.1.put 0 (.int .i64 k)).free 1
  have f2 := hm2.free 2
  have d2 := hm2.cell 2
  simp only [List.getElem?_toArray, List.getElem?_cons_zero, List.getElem?_cons_succ] at d2
  have hnm : nn < maxLen := by have := HX.out.2.2.2.2; unfold maxLen; omega
  have HOK := Lib.hid ((HX.out.2.2.2.1.ok.put k n live).mono (M' := (nn + 1) * 1099511627776) (N' := nn + 1) (by omega) (Nat.le_refl _))
  have hl' : putU k n live l = uput ⟨k, a1, v0 + if live then n else 0⟩ l := by
    unfold putU newU
    rw [if_pos hk1, HU.out]
    dsimp only
    rw [HA.out]
  rw [hl'] at HOK
  rw [hk1, hl']
  clear hl' hk1
  cases live
  · skip
    rw [if_neg (by decide), Int.add_zero] at HOK ⊢
    have H2 := Lib.hid (And.intro (HX.out.2.2.2.1.grow hg2) (And.intro hg2 hm2))
    clear hm2 hg2
    have hval := usR_mk (H := Unit) ⟨k, a1, v0⟩
    unfold usV at hval
    dsimp only at hval
    go_enter Try.func16, Try.ntmps16
    go_wp2_with (first | rw [hW1] | rw [hW2] | fail)
    clear hW1 hW2 hc1 hl1 c0 c1 c2 f0 f1 f2 d2
    refine wp_region_facts_tail (E := Grows) 6 [valFact (.pointer (some ⟨p, 0, none⟩)), valFact (.pointer (some ⟨p, 0, none⟩)), valFact (.pointer (some ⟨p, 0, none⟩)), valFact (.map (some b)), valFact (.int .i64 k), valFact (.agg #[.int .i64 k, .int .i64 a1, .int .i64 v0])] mixed (by kernel_rfl) (fun _ _ _ => Grows.trans) (grows_drew _) ?_
    simp only [List.take_succ_cons, List.take_zero, List.drop_succ_cons, List.drop_zero]
    refine f_val (.pointer (some ⟨p, 0, none⟩)) (by rfl) ?_ ?_
    · intro w' hC; clear hC; go_simp
    simp only [Act.put, List.setIfInBounds_toArray, List.set_cons_zero, List.set_cons_succ]
    refine f_val (.pointer (some ⟨p, 0, none⟩)) (by rfl) ?_ ?_
    · intro w' hC; clear hC; go_simp
    simp only [Act.put, List.setIfInBounds_toArray, List.set_cons_zero, List.set_cons_succ]
    refine f_val (.pointer (some ⟨p, 0, none⟩)) (by rfl) ?_ ?_
    · intro w' hC; clear hC; go_simp
    simp only [Act.put, List.setIfInBounds_toArray, List.set_cons_zero, List.set_cons_succ]
    refine f_val (.map (some b)) (by rfl) ?_ ?_
    · intro w' hC; have z := (H2.out.1.grow hC).box.cell; clear hC; go_simp
    simp only [Act.put, List.setIfInBounds_toArray, List.set_cons_zero, List.set_cons_succ]
    refine f_val (.int .i64 k) (by rfl) ?_ ?_
    · intro w' hC; clear hC; go_simp
    simp only [Act.put, List.setIfInBounds_toArray, List.set_cons_zero, List.set_cons_succ]
    refine f_val (.agg #[.int .i64 k, .int .i64 a1, .int .i64 v0]) (by rfl) ?_ ?_
    · intro w' hC; have q := hC.whole H2.out.2.2; have q0 := q.cell 0; have q1 := q.cell 1; have q2 := q.cell 2; simp only [List.getElem?_toArray, List.getElem?_cons_zero, List.getElem?_cons_succ] at q0 q1 q2; clear hC; go_simp
    simp only [Act.put, List.setIfInBounds_toArray, List.set_cons_zero, List.set_cons_succ]
    refine wpF_end ?_
    intro w3 hC hks
    have HCw3 := Lib.hid hC
    clear hC hks
    have hown3 := own_sameU H2.out.1.map (HCw3.out.block b H2.out.1.ltb)
    go_wp2_with (first
      | (at_mapUpdate; refine wpList_mapUpdate_in _ rfl _ _ _ 50 rfl 3 _ (int_keyed Try.underlying3) Try.underlying50 _ b nn _ rfl hown3 hnm _ _ _ rfl rfl hkey _ _ hval ?_; intro w7 hown7 hturn4)
      | fail)
    go_ret
    exact BkTo.done (x := ⟨k, a1, v0⟩) HX.out.2.2.2.1 (Grows.trans H2.out.2.1 HCw3.out) hown7 hturn4 rfl HOK.out
  · skip
    rw [if_pos rfl] at HOK ⊢
    obtain ⟨w3, w4⟩ := wrapI (x := v0 + n) (by have := HB.out; omega) (by have := HB.out; omega)
    obtain ⟨d, hd⟩ : ∃ d, v0 + n = d := ⟨_, rfl⟩
    rw [hd] at w3 w4 HOK ⊢
    have hm3 : Whole (W2.setCell ⟨w.heap.size, 2, none⟩ (.int .i64 d)) w.heap.size 34 #[.int .i64 k, .int .i64 a1, .int .i64 d] := hm2.put 2 _
    have hg3 : Grows w (W2.setCell ⟨w.heap.size, 2, none⟩ (.int .i64 d)) := Below.setCell (p := ⟨w.heap.size, 2, none⟩) hg2 (Nat.le_refl _) _
    obtain ⟨W3, hW3⟩ : ∃ W3, W2.setCell ⟨w.heap.size, 2, none⟩ (.int .i64 d) = W3 := ⟨_, rfl⟩
    rw [hW3] at hm3 hg3
    have H2 := Lib.hid (And.intro (HX.out.2.2.2.1.grow hg3) (And.intro hg3 hm3))
    clear hm2 hg2 hm3 hg3
    have hval := usR_mk (H := Unit) ⟨k, a1, d⟩
    unfold usV at hval
    dsimp only at hval
    go_enter Try.func16, Try.ntmps16
    go_wp2_with (first | rw [hW1] | rw [hW2] | rw [hW3] | fail)
    clear hW1 hW2 hW3 hc1 hl1 c0 c1 c2 f0 f1 f2 d2
    refine wp_region_facts_tail (E := Grows) 6 [valFact (.pointer (some ⟨p, 0, none⟩)), valFact (.pointer (some ⟨p, 0, none⟩)), valFact (.pointer (some ⟨p, 0, none⟩)), valFact (.map (some b)), valFact (.int .i64 k), valFact (.agg #[.int .i64 k, .int .i64 a1, .int .i64 d])] mixed (by kernel_rfl) (fun _ _ _ => Grows.trans) (grows_drew _) ?_
    simp only [List.take_succ_cons, List.take_zero, List.drop_succ_cons, List.drop_zero]
    refine f_val (.pointer (some ⟨p, 0, none⟩)) (by rfl) ?_ ?_
    · intro w' hC; clear hC; go_simp
    simp only [Act.put, List.setIfInBounds_toArray, List.set_cons_zero, List.set_cons_succ]
    refine f_val (.pointer (some ⟨p, 0, none⟩)) (by rfl) ?_ ?_
    · intro w' hC; clear hC; go_simp
    simp only [Act.put, List.setIfInBounds_toArray, List.set_cons_zero, List.set_cons_succ]
    refine f_val (.pointer (some ⟨p, 0, none⟩)) (by rfl) ?_ ?_
    · intro w' hC; clear hC; go_simp
    simp only [Act.put, List.setIfInBounds_toArray, List.set_cons_zero, List.set_cons_succ]
    refine f_val (.map (some b)) (by rfl) ?_ ?_
    · intro w' hC; have z := (H2.out.1.grow hC).box.cell; clear hC; go_simp
    simp only [Act.put, List.setIfInBounds_toArray, List.set_cons_zero, List.set_cons_succ]
    refine f_val (.int .i64 k) (by rfl) ?_ ?_
    · intro w' hC; clear hC; go_simp
    simp only [Act.put, List.setIfInBounds_toArray, List.set_cons_zero, List.set_cons_succ]
    refine f_val (.agg #[.int .i64 k, .int .i64 a1, .int .i64 d]) (by rfl) ?_ ?_
    · intro w' hC; have q := hC.whole H2.out.2.2; have q0 := q.cell 0; have q1 := q.cell 1; have q2 := q.cell 2; simp only [List.getElem?_toArray, List.getElem?_cons_zero, List.getElem?_cons_succ] at q0 q1 q2; clear hC; go_simp
    simp only [Act.put, List.setIfInBounds_toArray, List.set_cons_zero, List.set_cons_succ]
    refine wpF_end ?_
    intro w3 hC hks
    have HCw3 := Lib.hid hC
    clear hC hks
    have hown3 := own_sameU H2.out.1.map (HCw3.out.block b H2.out.1.ltb)
    go_wp2_with (first
      | (at_mapUpdate; refine wpList_mapUpdate_in _ rfl _ _ _ 50 rfl 3 _ (int_keyed Try.underlying3) Try.underlying50 _ b nn _ rfl hown3 hnm _ _ _ rfl rfl hkey _ _ hval ?_; intro w7 hown7 hturn4)
      | fail)
    go_ret
    exact BkTo.done (x := ⟨k, a1, d⟩) HX.out.2.2.2.1 (Grows.trans H2.out.2.1 HCw3.out) hown7 hturn4 rfl HOK.out
end Go.Proofs.Ytlldcogkcjnejaa
