/-
  The document's answer to keys: Put.
-/
import Derived.Test.YtadgbobemmfjoaaRkDel
namespace Go.Proofs.Ytadgbobemmfjoaa
open Go.RowKit
set_option linter.unusedVariables false
set_option linter.unusedSimpArgs false
attribute [local irreducible] wpF

/-- A part of the list, as an append reads it. -/
def LiesP (w : World) (A : Option Addr) (l : List Pl) : Prop := ∃ ad, A = some ad ∧ ∀ (t : Nat) (u : Value), (l.flatMap plE)[t]? = some u → w.cell? (ad.add t) = some u
theorem pls_keep {w w' : World} {A : Option Addr} {n c : Nat} {l : List Pl} (h : Pls w A n c l) (hk : Keep5 w.heap.size w w') : Pls w' A n c l := by
  refine ⟨h.len, h.cap, h.bare, h.row.len, fun j v hj => ?_⟩
  obtain ⟨ad, e1, e2, e3⟩ := h.row.spot j v hj
  refine ⟨ad, e1, Nat.lt_of_lt_of_le e2 hk.sp.size, ?_⟩
  have hb := hk.sp.same _ e2 (by omega)
  unfold World.cell? at e3 ⊢
  rw [add_block] at *
  rw [hb]
  exact e3
theorem places_take {w : World} {ad : Addr} {n c : Nat} {l : List Pl} (h : Pls w (some ad) n c l) (i : Nat) : ∀ (t : Nat) (u : Value), ((l.take i).flatMap plE)[t]? = some u → w.cell? (ad.add t) = some u := by
  intro t u hu
  have hsplit : l.flatMap plE = (l.take i).flatMap plE ++ (l.drop i).flatMap plE := by rw [← List.flatMap_append, List.take_append_drop]
  have h1 : (l.flatMap plE)[t]? = some u := by
    rw [hsplit, List.getElem?_append_left (List.getElem?_eq_some_iff.1 hu).1]
    exact hu
  obtain ⟨ad', e, _, h2⟩ := h.row.spot _ _ h1
  injection e with e
  subst e
  exact h2
theorem cell_litP {w : World} {g t : Nat} {p0 p1 p3 p4 : Int} {p2 : List UInt8} (h : Whole w g t #[.int .i64 p0, .int .i64 p1, .string ⟨p2.toArray⟩, .int .i64 p3, .int .i64 p4]) : ∀ (t : Nat) (u : Value), (([(⟨p0, p1, p2, p3, p4⟩ : Pl)]).flatMap plE)[t]? = some u → w.cell? ((⟨g, 0, none⟩ : Addr).add t) = some u := fun t u hu => by
  rw [show (⟨g, 0, none⟩ : Addr).add t = ⟨g, t, none⟩ by unfold Addr.add; split <;> simp_all, h.cell t, List.getElem?_toArray]
  exact hu
theorem insL_at {p : Pl} : ∀ {l : List Pl} {i : Nat}, (∀ y ∈ l.take i, bytesBefore y.key p.key = true) → (∀ y, l[i]? = some y → bytesBefore y.key p.key = false) → insL p l = l.take i ++ [p] ++ l.drop i
  | [], i, _, _ => by simp [insL]
  | y :: r, 0, _, h2 => by
    have h := h2 y rfl
    unfold insL
    rw [if_neg (by rw [h]; decide)]
    rfl
  | y :: r, i + 1, h1, h2 => by
    have h := h1 y (by simp)
    unfold insL
    rw [if_pos h, insL_at (l := r) (i := i) (fun z hz => h1 z (by rw [List.take_succ_cons]; exact List.mem_cons_of_mem _ hz)) (fun z hz => h2 z (by simpa using hz))]
    rfl
def rowP (n : Nat) (l : List Pl) : Fact Grows := ⟨Option Addr × Nat, (none, 0), fun q => .slice q.1 n q.2, fun q w => Pls w q.1 n q.2 l, fun _ _ _ h g => h.grow g⟩
set_option maxRecDepth 100000 in
set_option maxHeartbeats 8000000 in
theorem rkput_any {q c : Nat} {A : Option Addr} {l : List Pl} {w : World} (h : RkAt w q A c l) (hn : l.length < 999999) (p : Pl) :
    Calls Try.prog 21 #[.pointer (some ⟨q, 0, none⟩), plV p] w fun e w' => e = .returned (plTo (getL p.key l)) ∧ RkTo w q A (kputL p l) w' := by
  obtain ⟨p0, p1, p2, p3, p4⟩ := p
  dsimp only
  have hg0 := grows_alloc w (.cells #[.int .i64 p0, .int .i64 p1, .string ⟨p2.toArray⟩, .int .i64 p3, .int .i64 p4] 32)
  have hm0 := Whole.made w 32 #[.int .i64 p0, .int .i64 p1, .string ⟨p2.toArray⟩, .int .i64 p3, .int .i64 p4]
  obtain ⟨W0, hW0⟩ : ∃ W0, w.alloc (.cells #[.int .i64 p0, .int .i64 p1, .string ⟨p2.toArray⟩, .int .i64 p3, .int .i64 p4] 32) = W0 := ⟨_, rfl⟩
  rw [hW0] at hg0 hm0
  have hs0 : W0.heap.size = w.heap.size + 1 := by rw [← hW0, World.size_alloc]
  have hg1 := grows_alloc W0 (.cells #[.int .i64 0, .int .i64 0, .string ⟨#[]⟩, .int .i64 0, .int .i64 0] 32)
  have hm1 := Whole.made W0 32 #[.int .i64 0, .int .i64 0, .string ⟨#[]⟩, .int .i64 0, .int .i64 0]
  obtain ⟨W1, hW1⟩ : ∃ W1, W0.alloc (.cells #[.int .i64 0, .int .i64 0, .string ⟨#[]⟩, .int .i64 0, .int .i64 0] 32) = W1 := ⟨_, rfl⟩
  rw [hW1] at hg1 hm1
  have hs1 : W1.heap.size = W0.heap.size + 1 := by rw [← hW1, World.size_alloc]
  have hm01 := hg1.whole hm0
  obtain ⟨pb, hpb⟩ : ∃ pb, w.heap.size = pb := ⟨_, rfl⟩
  rw [hpb] at hm0 hm01
  obtain ⟨kb, hkb⟩ : ∃ kb, W0.heap.size = kb := ⟨_, rfl⟩
  rw [hkb] at hm1
  have hg01 := Grows.trans hg0 hg1
  have HG := Lib.hid (rkget_any (h.grow hg01) (by omega) p2)
  obtain ⟨x, hx⟩ : ∃ x, getL p2 l = x := ⟨_, rfl⟩
  rw [hx] at HG ⊢
  obtain ⟨y, hy⟩ : ∃ y, x.getD Pl.zero = y := ⟨_, rfl⟩
  obtain ⟨z, hz⟩ : ∃ z, x.isSome = z := ⟨_, rfl⟩
  have hpl : plTo x = .tuple #[plV y, .bool z] := by unfold plTo; rw [hy, hz]
  rw [hpl] at HG ⊢
  obtain ⟨y0, y1, y2, y3, y4⟩ := y
  unfold plV at HG ⊢
  dsimp only at HG ⊢
  obtain ⟨n, hl⟩ : ∃ n, l.length = n := ⟨_, rfl⟩
  have hb := h.box
  have hrow := h.row
  rw [hl] at hb hrow hn
  have hdl := delL_len p2 l
  obtain ⟨m, hm⟩ : ∃ m, (delL p2 l).length = m := ⟨_, rfl⟩
  have HML := Lib.hid (show (delL p2 l).length = m ∧ m < 999999 from ⟨hm, by omega⟩)
  have HX := Lib.hid (show Boxed w q 56 (.slice A n c) ∧ Pls w A n c l ∧ n < 999999 ∧ Grows w W1 ∧ q < w.heap.size ∧ w.heap.size = pb ∧ kb = pb + 1 ∧ W1.heap.size = pb + 2 from ⟨hb, hrow, hn, hg01, hb.lt, by omega, by omega, by omega⟩)
  have HM1 := Lib.hid (And.intro hm01 hm1)
  have e2 := hm01.cell 2
  simp only [List.getElem?_toArray, List.getElem?_cons_zero, List.getElem?_cons_succ] at e2
  clear h hb hrow hn hg0 hg1 hg01 hm0 hm1 hm01 hs0 hs1 hl hx hy hz hpl hm hdl
  go_enter Try.func21, Try.ntmps21
  go_wp2_with (first | rw [hW0] | rw [hW1] | fail)
  clear hW0 hW1
  refine HG.out.mono ?_
  rintro e w2 ⟨rfl, hg2⟩
  have hg3 := grows_alloc w2 (.cells #[.int .i64 y0, .int .i64 y1, .string ⟨y2.toArray⟩, .int .i64 y3, .int .i64 y4] 32)
  have hm3 := Whole.made w2 32 #[.int .i64 y0, .int .i64 y1, .string ⟨y2.toArray⟩, .int .i64 y3, .int .i64 y4]
  obtain ⟨W3, hW3⟩ : ∃ W3, w2.alloc (.cells #[.int .i64 y0, .int .i64 y1, .string ⟨y2.toArray⟩, .int .i64 y3, .int .i64 y4] 32) = W3 := ⟨_, rfl⟩
  rw [hW3] at hg3 hm3
  obtain ⟨gb, hgb⟩ : ∃ gb, w2.heap.size = gb := ⟨_, rfl⟩
  rw [hgb] at hm3
  have hg13 := Grows.trans hg2 hg3
  have hgw : Grows w W3 := Grows.trans HX.out.2.2.2.1 hg13
  have HNE := Lib.hid (show gb ≠ q ∧ kb ≠ q ∧ w.heap.size ≤ kb ∧ q < w.heap.size from by
    have h1 := HX.out.2.2.2.2
    have h2 := hg2.size
    omega)
  have H2 := Lib.hid (show Grows w W3 ∧ Boxed W3 q 56 (.slice A n c) ∧ Whole W3 pb 32 #[.int .i64 p0, .int .i64 p1, .string ⟨p2.toArray⟩, .int .i64 p3, .int .i64 p4] ∧ Whole W3 gb 32 #[.int .i64 y0, .int .i64 y1, .string ⟨y2.toArray⟩, .int .i64 y3, .int .i64 y4] ∧ Whole W3 kb 32 #[.int .i64 0, .int .i64 0, .string ⟨#[]⟩, .int .i64 0, .int .i64 0] from ⟨hgw, (hgw.block _ HX.out.1.lt).trans HX.out.1, hg13.whole HM1.out.1, hm3, hg13.whole HM1.out.2⟩)
  have HRD := Lib.hid (show ∀ w', Grows W3 w' → w'.cell? ⟨q, 0, none⟩ = some (.slice A n c) ∧ w'.cell? ⟨pb, 1, none⟩ = some (.int .i64 p1) ∧ w'.cell? ⟨pb, 2, none⟩ = some (.string ⟨p2.toArray⟩) from fun w' hg => by
    have h1 : Boxed w' q 56 (.slice A n c) := (hg.block _ H2.out.2.1.lt).trans H2.out.2.1
    have h2 := hg.whole H2.out.2.2.1
    refine ⟨h1.cell, ?_, ?_⟩ <;> (rw [h2.cell]; rfl))
  have HWO := Lib.hid (show ∀ w', Grows W3 w' → Calls Try.prog 30 #[.slice A n c, .string ⟨p2.toArray⟩] w' fun e w'' => Grows w' w'' ∧ ∃ x : Option Addr × Nat, e = .returned (.slice x.1 m x.2) ∧ Pls w'' x.1 m x.2 (delL p2 l) from fun w' hg => (without_any w' (HX.out.2.1.grow (Grows.trans hgw hg)) (by have := HX.out.2.2.1; omega) p2).mono fun e w'' ⟨A3, n3, c3, h2, h3, h4⟩ => by
    have hl3 := OwnB.len h3
    rw [HML.out.1] at hl3
    subst hl3
    exact ⟨h4, (A3, c3), h2, Rs.owned plL HML.out.1 h3⟩)
  clear hg2 hg3 hm3 hg13 hgw HG e2
  go_wp2_with (first | rw [hW3] | fail)
  clear hW3 hgb
  refine wp_region_facts_tail (E := Grows) 8 [valFact (.pointer (some ⟨q, 0, none⟩)), valFact (.pointer (some ⟨q, 0, none⟩)), valFact (.pointer (some ⟨q, 0, none⟩)), valFact (.slice A n c), valFact (.pointer (some ⟨pb, 1, none⟩)), valFact (.pointer (some ⟨pb, 2, none⟩)), valFact (.string ⟨p2.toArray⟩), rowP m (delL p2 l)] mixed (by kernel_rfl) (fun _ _ _ => Grows.trans) (grows_drew _) ?_
  simp only [List.take_succ_cons, List.take_zero, List.drop_succ_cons, List.drop_zero]
  refine f_val (.pointer (some ⟨q, 0, none⟩)) (by rfl) ?_ ?_
  · intro w' hC; clear hC; go_simp
  simp only [Act.put, List.setIfInBounds_toArray, List.set_cons_zero, List.set_cons_succ]
  refine f_val (.pointer (some ⟨q, 0, none⟩)) (by rfl) ?_ ?_
  · intro w' hC; clear hC; go_simp
  simp only [Act.put, List.setIfInBounds_toArray, List.set_cons_zero, List.set_cons_succ]
  refine f_val (.pointer (some ⟨q, 0, none⟩)) (by rfl) ?_ ?_
  · intro w' hC; clear hC; go_simp
  simp only [Act.put, List.setIfInBounds_toArray, List.set_cons_zero, List.set_cons_succ]
  refine f_val (.slice A n c) (by rfl) ?_ ?_
  · intro w' hC; obtain ⟨z0, z1, z2⟩ := HRD.out w' hC; clear hC; go_simp
  simp only [Act.put, List.setIfInBounds_toArray, List.set_cons_zero, List.set_cons_succ]
  refine f_val (.pointer (some ⟨pb, 1, none⟩)) (by rfl) ?_ ?_
  · intro w' hC; clear hC; go_simp
  simp only [Act.put, List.setIfInBounds_toArray, List.set_cons_zero, List.set_cons_succ]
  refine f_val (.pointer (some ⟨pb, 2, none⟩)) (by rfl) ?_ ?_
  · intro w' hC; clear hC; go_simp
  simp only [Act.put, List.setIfInBounds_toArray, List.set_cons_zero, List.set_cons_succ]
  refine f_val (.string ⟨p2.toArray⟩) (by rfl) ?_ ?_
  · intro w' hC; obtain ⟨z0, z1, z2⟩ := HRD.out w' hC; clear hC; go_simp
  simp only [Act.put, List.setIfInBounds_toArray, List.set_cons_zero, List.set_cons_succ]
  refine f_callK 30 #[.slice A n c, .string ⟨p2.toArray⟩] (by rfl) (by intro w' hC; clear hC; go_simp) ?_ ?_
  · intro w' hC; exact HWO.out w' hC
  rintro ⟨A8, c8⟩
  dsimp only [rowP]
  simp only [Act.put, List.setIfInBounds_toArray, List.set_cons_zero, List.set_cons_succ]
  refine wpF_end ?_
  intro w3 hC hks
  have HCw3 := Lib.hid hC
  have HL3 := Lib.hid (Known.at hks 0 rfl)
  clear hC hks
  have HROW3 := Lib.hid (show Pls w3 A8 m c8 (delL p2 l) from HL3.out)
  clear HRD HWO HL3
  go_wp2_with (fail)
  go_loopw [9] (fun vi wr => ∃ (i : Nat), i ≤ m ∧ vi = .int .i64 (i : Int) ∧ Hid (∀ y ∈ (delL p2 l).take i, bytesBefore y.key p2 = true) ∧ Hid (Grows W3 wr) ∧ Hid (Pls wr A8 m c8 (delL p2 l))) (fun vi _ => m - (intOf vi).toNat)
  case atStart => exact ⟨0, Nat.zero_le _, rfl, Lib.hid (fun y hy => by simp at hy), HCw3, HROW3⟩
  case round =>
    obtain ⟨i, hi, rfl, HPRE, HG, HROW⟩ := hrel
    by_cases hlt : i < m
    · obtain ⟨ad, ⟨x0, x1, x2, x3, x4⟩, rfl, hy, hbl, hcy⟩ := Pls.at HROW.out hlt
      dsimp only at hcy
      have HCY := Lib.hid hcy
      have HY := Lib.hid hy
      have HPB := Lib.hid (show ∀ w', Grows wr w' → w'.cell? ⟨pb, 2, none⟩ = some (.string ⟨p2.toArray⟩) from fun w' hg => by
        have h2 := (Grows.trans HG.out hg).whole H2.out.2.2.1
        rw [h2.cell]; rfl)
      have k0 : (0 : Int) ≤ (i : Int) := by omega
      have k1 : (i : Int) < (m : Int) := by omega
      clear hy hbl hcy
      rcases hr : bytesBefore x2 p2 with _ | _
      · have HKL := Lib.hid ((kless x2 p2).trans hr)
        have HPOST := Lib.hid (show ∀ y, (delL p2 l)[i]? = some y → bytesBefore y.key p2 = false from fun y hy => by
          rw [HY.out] at hy
          injection hy with hy
          rw [← hy]
          exact hr)
        clear hr
        go_wp2_with (fail)
        refine wp_region_facts (E := Grows) [valFact (.int .i64 (i : Int)), valFact (.slice (some ad) m c8), valFact (.int .i64 (m : Int)), valFact (.bool true), valFact (.bool true), valFact (.slice (some ad) m c8), valFact (.int .i64 (i : Int)), valFact (.pointer (some (ad.add (i * 5)))), valFact (.pointer (some { block := (ad.add (i * 5)).block, off := (ad.add (i * 5)).off + 1 })), valFact (.pointer (some { block := (ad.add (i * 5)).block, off := (ad.add (i * 5)).off + 2 })), valFact (.string ⟨x2.toArray⟩), valFact (.pointer (some ⟨pb, 1, none⟩)), valFact (.pointer (some ⟨pb, 2, none⟩)), valFact (.string ⟨p2.toArray⟩), valFact (.bool false), valFact (.bool false)] (by kernel_rfl) (by kernel_rfl) (fun _ _ _ => Grows.trans) (grows_drew _) ?_
        refine f_val (.int .i64 (i : Int)) (by rfl) ?_ ?_
        · intro w' hC; clear hC; go_simp
        simp only [Act.put, List.setIfInBounds_toArray, List.set_cons_zero, List.set_cons_succ]
        refine f_val (.slice (some ad) m c8) (by rfl) ?_ ?_
        · intro w' hC; clear hC; go_simp
        simp only [Act.put, List.setIfInBounds_toArray, List.set_cons_zero, List.set_cons_succ]
        refine f_val (.int .i64 (m : Int)) (by rfl) ?_ ?_
        · intro w' hC; clear hC; go_simp
        simp only [Act.put, List.setIfInBounds_toArray, List.set_cons_zero, List.set_cons_succ]
        refine f_val (.bool true) (by rfl) ?_ ?_
        · intro w' hC; clear hC; go_simp
        simp only [Act.put, List.setIfInBounds_toArray, List.set_cons_zero, List.set_cons_succ]
        refine f_val (.bool true) (by rfl) ?_ ?_
        · intro w' hC; clear hC; go_simp
        simp only [Act.put, List.setIfInBounds_toArray, List.set_cons_zero, List.set_cons_succ]
        refine f_val (.slice (some ad) m c8) (by rfl) ?_ ?_
        · intro w' hC; clear hC; go_simp
        simp only [Act.put, List.setIfInBounds_toArray, List.set_cons_zero, List.set_cons_succ]
        refine f_val (.int .i64 (i : Int)) (by rfl) ?_ ?_
        · intro w' hC; clear hC; go_simp
        simp only [Act.put, List.setIfInBounds_toArray, List.set_cons_zero, List.set_cons_succ]
        refine f_val (.pointer (some (ad.add (i * 5)))) (by rfl) ?_ ?_
        · intro w' hC; clear hC; go_simp
        simp only [Act.put, List.setIfInBounds_toArray, List.set_cons_zero, List.set_cons_succ]
        refine f_val (.pointer (some { block := (ad.add (i * 5)).block, off := (ad.add (i * 5)).off + 1 })) (by rfl) ?_ ?_
        · intro w' hC; clear hC; go_simp
        simp only [Act.put, List.setIfInBounds_toArray, List.set_cons_zero, List.set_cons_succ]
        refine f_val (.pointer (some { block := (ad.add (i * 5)).block, off := (ad.add (i * 5)).off + 2 })) (by rfl) ?_ ?_
        · intro w' hC; clear hC; go_simp
        simp only [Act.put, List.setIfInBounds_toArray, List.set_cons_zero, List.set_cons_succ]
        refine f_val (.string ⟨x2.toArray⟩) (by rfl) ?_ ?_
        · intro w' hC; obtain ⟨c0, c1, c2, c3, c4⟩ := HCY.out w' hC; clear hC; go_simp
        simp only [Act.put, List.setIfInBounds_toArray, List.set_cons_zero, List.set_cons_succ]
        refine f_val (.pointer (some ⟨pb, 1, none⟩)) (by rfl) ?_ ?_
        · intro w' hC; clear hC; go_simp
        simp only [Act.put, List.setIfInBounds_toArray, List.set_cons_zero, List.set_cons_succ]
        refine f_val (.pointer (some ⟨pb, 2, none⟩)) (by rfl) ?_ ?_
        · intro w' hC; clear hC; go_simp
        simp only [Act.put, List.setIfInBounds_toArray, List.set_cons_zero, List.set_cons_succ]
        refine f_val (.string ⟨p2.toArray⟩) (by rfl) ?_ ?_
        · intro w' hC; have z2 := HPB.out w' hC; clear hC; go_simp
        simp only [Act.put, List.setIfInBounds_toArray, List.set_cons_zero, List.set_cons_succ]
        refine f_val (.bool false) (by rfl) ?_ ?_
        · intro w' hC; have z := HKL.out; clear hC; go_simp
        simp only [Act.put, List.setIfInBounds_toArray, List.set_cons_zero, List.set_cons_succ]
        refine f_val (.bool false) (by rfl) ?_ ?_
        · intro w' hC; clear hC; go_simp
        simp only [Act.put, List.setIfInBounds_toArray, List.set_cons_zero, List.set_cons_succ]
        refine wpF_end ?_
        intro w4 hC hks
        have HCw4 := Lib.hid hC
        clear hC hks
        clear HCY HPB k0 k1
        go_wp2_with (fail)
        obtain ⟨hs1, A2, m2, c3, hs2, hm2, _, hdk⟩ := cut_places (HROW.out.grow HCw4.out) hi (by have := HML.out.2; omega)
        have HS1 := Lib.hid hs1
        have HS2 := Lib.hid hs2
        have HG4 := Lib.hid (Grows.trans HG.out HCw4.out)
        have HUK := Lib.hid (show ∀ w', Keep5 w4.heap.size w4 w' → Pls w' (some ad) m c8 (delL p2 l) from fun w' hC => pls_keep (HROW.out.grow HCw4.out) hC)
        have HTK := Lib.hid (show ∀ w', Keep5 w4.heap.size w4 w' → 0 < i → LiesP w' (some ad) ((delL p2 l).take i) from fun w' hC hp => by
          obtain ⟨aX, _, e, _⟩ := Pls.at (HUK.out w' hC) (i := 0) (by omega)
          refine ⟨aX, e, ?_⟩
          have h1 := HUK.out w' hC
          rw [e] at h1
          exact places_take h1 i)
        have HDK := Lib.hid (show ∀ w', Keep5 w4.heap.size w4 w' → 0 < m2 → LiesP w' A2 ((delL p2 l).drop i) from fun w' hC hp => by
          obtain ⟨aX, e, hh⟩ := hdk hp
          exact ⟨aX, e, hh w' (HUK.out w' hC)⟩)
        have HLN := Lib.hid (show ((((delL p2 l).take i).length = i ∧ 0 + i ≤ 1000000) ∧ (([(⟨p0, p1, p2, p3, p4⟩ : Pl)]).length = 1 ∧ i + 1 ≤ 1000000) ∧ (((delL p2 l).drop i).length = m2 ∧ i + 1 + m2 ≤ 1000000)) from by
          have h1 := HML.out
          exact ⟨⟨by rw [List.length_take]; omega, by omega⟩, ⟨rfl, by omega⟩, ⟨by rw [List.length_drop]; omega, by omega⟩⟩)
        have HP4 := Lib.hid (show ∀ w', Keep5 w4.heap.size w4 w' → w'.cell? ⟨pb, 0, none⟩ = some (.int .i64 p0) ∧ w'.cell? ⟨pb, 1, none⟩ = some (.int .i64 p1) ∧ w'.cell? ⟨pb, 2, none⟩ = some (.string ⟨p2.toArray⟩) ∧ w'.cell? ⟨pb, 3, none⟩ = some (.int .i64 p3) ∧ w'.cell? ⟨pb, 4, none⟩ = some (.int .i64 p4) from fun w' hC => by
          have h1 := HG4.out.whole H2.out.2.2.1
          have h2 : Whole w' pb 32 #[.int .i64 p0, .int .i64 p1, .string ⟨p2.toArray⟩, .int .i64 p3, .int .i64 p4] := (hC.sp.same pb h1.lt (by have := h1.lt; omega)).trans h1
          refine ⟨?_, ?_, ?_, ?_, ?_⟩ <;> (rw [h2.cell]; rfl))
        clear hs1 hs2 hm2 hdk
        go_wp2_with (fail)
        refine wp_region_jobs (G := Grows) (E := Keep5 (w4.heap.size)) 15 [vJob (w4.heap.size) (.pointer (some ⟨q, 0, none⟩)), cJob (w4.heap.size) Nat 0 (fun g => .slice (some ⟨g, 0, none⟩) 0 0) (fun g w' => Chain (w4.heap.size) [] 0 (some ⟨g, 0, none⟩) 0 w') (fun _ _ _ h hg => h.grow hg), vJob (w4.heap.size) (.slice (some ad) m c8), vJob (w4.heap.size) (.int .i64 (i : Int)), vJob (w4.heap.size) (.slice (some ad) i c8), cJob (w4.heap.size) (Option Addr × Nat) (none, 0) (fun p => .slice p.1 (i) p.2) (fun p w' => Chain (w4.heap.size) ((delL p2 l).take i) (i) p.1 p.2 w') (fun _ _ _ h hg => h.grow hg), vJob (w4.heap.size) (.agg #[.int .i64 p0, .int .i64 p1, .string ⟨p2.toArray⟩, .int .i64 p3, .int .i64 p4]), mJob (w4.heap.size) (32) (#[.int .i64 p0, .int .i64 p1, .string ⟨p2.toArray⟩, .int .i64 p3, .int .i64 p4]) rfl, cJob (w4.heap.size) (Option Addr × Nat) (none, 0) (fun p => .slice p.1 (i + 1) p.2) (fun p w' => Chain (w4.heap.size) ((delL p2 l).take i ++ [(⟨p0, p1, p2, p3, p4⟩ : Pl)]) (i + 1) p.1 p.2 w') (fun _ _ _ h hg => h.grow hg), vJob (w4.heap.size) (.slice (some ad) m c8), vJob (w4.heap.size) (.int .i64 (i : Int)), vJob (w4.heap.size) (.slice A2 m2 c3), cJob (w4.heap.size) (Option Addr × Nat) (none, 0) (fun p => .slice p.1 (i + 1 + m2) p.2) (fun p w' => Chain (w4.heap.size) ((delL p2 l).take i ++ [(⟨p0, p1, p2, p3, p4⟩ : Pl)] ++ (delL p2 l).drop i) (i + 1 + m2) p.1 p.2 w') (fun _ _ _ h hg => h.grow hg), vJob (w4.heap.size) (.pointer (some ⟨q, 0, none⟩)), vJob (w4.heap.size) (.pointer (some ⟨q, 0, none⟩))] [(false, false), (true, true), (false, false), (false, false), (false, false), (true, true), (false, false), (false, false), (true, true), (false, false), (false, false), (false, false), (true, true), (false, false), (false, false)] (fun _ => True) rfl mixed (by kernel_rfl) (fun _ _ => Keep5.ofGrows) (fun _ _ _ => Keep5.trans) (keep5_drew _ _) trivial (fun _ _ h _ => h) ?_
        simp only [List.take_succ_cons, List.take_zero, List.drop_succ_cons, List.drop_zero]
        refine ke_val (.pointer (some ⟨q, 0, none⟩)) (by rfl) ?_ ?_
        · intro w' hC; clear hC; go_simp
        simp only [Act.put, List.setIfInBounds_toArray, List.set_cons_zero, List.set_cons_succ]
        refine ke_cls (by rfl) (fun w' hC hcls hks => ⟨w'.heap.size, w'.alloc (.cells #[] 32), by go_simp, Keep5.ofGrows (grows_alloc _ _), ⟨World.ownsRow_lit w' #[] 0 hC.sp.size (Nat.zero_le _) rfl, fun _ => rfl, by simp⟩⟩) ?_
        intro g1
        dsimp only
        simp only [Act.put, List.setIfInBounds_toArray, List.set_cons_zero, List.set_cons_succ]
        refine ke_val (.slice (some ad) m c8) (by rfl) ?_ ?_
        · intro w' hC; clear hC; go_simp
        simp only [Act.put, List.setIfInBounds_toArray, List.set_cons_zero, List.set_cons_succ]
        refine ke_val (.int .i64 (i : Int)) (by rfl) ?_ ?_
        · intro w' hC; clear hC; go_simp
        simp only [Act.put, List.setIfInBounds_toArray, List.set_cons_zero, List.set_cons_succ]
        refine ke_val (.slice (some ad) i c8) (by rfl) ?_ ?_
        · intro w' hC; have z := HS1.out w'; clear hC; go_simp
        simp only [Act.put, List.setIfInBounds_toArray, List.set_cons_zero, List.set_cons_succ]
        refine ke_cls (by rfl) (fun w' hC hcls hks => ?_) ?_
        · obtain ⟨A', c', w2, hr, hc2, hk2⟩ := chain_append (ty := 54) hcls (fun hp => HTK.out w' hC hp) HLN.out.1 hC.sp.size (k := i) (Nat.zero_add i) (l3 := (delL p2 l).take i) rfl
          exact ⟨(A', c'), w2, exec_appK rfl rfl rfl hr, hk2, hc2⟩
        rintro ⟨B2, d2⟩
        dsimp only
        simp only [Act.put, List.setIfInBounds_toArray, List.set_cons_zero, List.set_cons_succ]
        refine ke_val (.agg #[.int .i64 p0, .int .i64 p1, .string ⟨p2.toArray⟩, .int .i64 p3, .int .i64 p4]) (by rfl) ?_ ?_
        · intro w' hC; obtain ⟨z0, z1, z2, z3, z4⟩ := HP4.out w' hC; clear hC; go_simp
        simp only [Act.put, List.setIfInBounds_toArray, List.set_cons_zero, List.set_cons_succ]
        refine ke_made (32) (#[.int .i64 p0, .int .i64 p1, .string ⟨p2.toArray⟩, .int .i64 p3, .int .i64 p4]) rfl (by rfl) ?_ ?_
        · intro w' hC; clear hC; go_simp
        intro g2
        simp only [Act.put, List.setIfInBounds_toArray, List.set_cons_zero, List.set_cons_succ]
        refine ke_cls (by rfl) (fun w' hC hcls hks => ?_) ?_
        · obtain ⟨A', c', w2, hr, hc2, hk2⟩ := chain_append (ty := 54) hcls (l2 := [(⟨p0, p1, p2, p3, p4⟩ : Pl)]) (fun _ => ⟨⟨g2, 0, none⟩, rfl, fun t u hu => cell_litP (Known.get hks 0 rfl rfl) t u hu⟩) HLN.out.2.1 hC.sp.size (k := i + 1) rfl (l3 := (delL p2 l).take i ++ [(⟨p0, p1, p2, p3, p4⟩ : Pl)]) rfl
          exact ⟨(A', c'), w2, exec_appK rfl rfl rfl hr, hk2, hc2⟩
        rintro ⟨B3, d3⟩
        dsimp only
        simp only [Act.put, List.setIfInBounds_toArray, List.set_cons_zero, List.set_cons_succ]
        refine ke_val (.slice (some ad) m c8) (by rfl) ?_ ?_
        · intro w' hC; clear hC; go_simp
        simp only [Act.put, List.setIfInBounds_toArray, List.set_cons_zero, List.set_cons_succ]
        refine ke_val (.int .i64 (i : Int)) (by rfl) ?_ ?_
        · intro w' hC; clear hC; go_simp
        simp only [Act.put, List.setIfInBounds_toArray, List.set_cons_zero, List.set_cons_succ]
        refine ke_val (.slice A2 m2 c3) (by rfl) ?_ ?_
        · intro w' hC; have z := HS2.out w'; clear hC; go_simp
        simp only [Act.put, List.setIfInBounds_toArray, List.set_cons_zero, List.set_cons_succ]
        refine ke_cls (by rfl) (fun w' hC hcls hks => ?_) ?_
        · obtain ⟨A', c', w2, hr, hc2, hk2⟩ := chain_append (ty := 54) hcls (fun hp => HDK.out w' hC hp) HLN.out.2.2 hC.sp.size (k := i + 1 + m2) rfl (l3 := (delL p2 l).take i ++ [(⟨p0, p1, p2, p3, p4⟩ : Pl)] ++ (delL p2 l).drop i) rfl
          exact ⟨(A', c'), w2, exec_appK rfl rfl rfl hr, hk2, hc2⟩
        rintro ⟨B5, d5⟩
        dsimp only
        simp only [Act.put, List.setIfInBounds_toArray, List.set_cons_zero, List.set_cons_succ]
        refine ke_val (.pointer (some ⟨q, 0, none⟩)) (by rfl) ?_ ?_
        · intro w' hC; clear hC; go_simp
        simp only [Act.put, List.setIfInBounds_toArray, List.set_cons_zero, List.set_cons_succ]
        refine ke_val (.pointer (some ⟨q, 0, none⟩)) (by rfl) ?_ ?_
        · intro w' hC; clear hC; go_simp
        simp only [Act.put, List.setIfInBounds_toArray, List.set_cons_zero, List.set_cons_succ]
        refine ke_end ?_
        intro w7 hC hks hcls
        have HCw7 := Lib.hid hC
        have HLw7 := Lib.hid hcls
        clear hC hks hcls
        have hlow : ∀ k, k < w4.heap.size → w7.heap[k]? = w4.heap[k]? := fun k hk => HCw7.out.sp.same k hk (by omega)
        have hbx : Boxed w7 q 56 (.slice A n c) := (hlow q (HG4.out.whole H2.out.2.1).lt).trans (HG4.out.whole H2.out.2.1)
        have d0 := hbx.cell
        have fz : w7.frozen? ⟨q, 0, none⟩ = false := Whole.free (show Whole w7 q 56 #[_] from hbx) 0
        obtain ⟨W8, hW8⟩ : ∃ W, w7.setCell ⟨q, 0, none⟩ (.slice B5 (i + 1 + m2) d5) = W := ⟨_, rfl⟩
        have hgb := HG4.out.whole H2.out.2.2.2.1
        have hkb := HG4.out.whole H2.out.2.2.2.2
        have hm8 : Whole W8 gb 32 #[.int .i64 y0, .int .i64 y1, .string ⟨y2.toArray⟩, .int .i64 y3, .int .i64 y4] := by
          rw [← hW8]
          exact (Below.heap_setCell _ _ _ _ HNE.out.1).trans ((hlow gb hgb.lt).trans hgb)
        have hk8 : Whole W8 kb 32 #[.int .i64 0, .int .i64 0, .string ⟨#[]⟩, .int .i64 0, .int .i64 0] := by
          rw [← hW8]
          exact (Below.heap_setCell _ _ _ _ HNE.out.2.1).trans ((hlow kb hkb.lt).trans hkb)
        have e0 := hm8.cell 0
        have e1 := hm8.cell 1
        have e2 := hm8.cell 2
        have e3 := hm8.cell 3
        have e4 := hm8.cell 4
        simp only [List.getElem?_toArray, List.getElem?_cons_zero, List.getElem?_cons_succ] at e0 e1 e2 e3 e4
        have H8 := Lib.hid hk8
        have HR := Lib.hid (show RkTo w q A (kputL ⟨p0, p1, p2, p3, p4⟩ l) (W8.setRow kb #[.int .i64 y0, .int .i64 y1, .string ⟨y2.toArray⟩, .int .i64 y3, .int .i64 y4]) from by
          rw [← hW8]
          have hgw : Grows w w4 := Grows.trans H2.out.1 HG4.out
          refine RkTo.made (B := w4.heap.size) HNE.out.2.2.1 hkb.lt HNE.out.2.2.2 ((Spares.grows hgw).trans HCw7.out.sp) ?_ hbx _
          have hins : kputL ⟨p0, p1, p2, p3, p4⟩ l = (delL p2 l).take i ++ [(⟨p0, p1, p2, p3, p4⟩ : Pl)] ++ (delL p2 l).drop i := insL_at HPRE.out HPOST.out
          rw [hins]
          exact HLw7.out.own)
        clear hlow hbx hgb hkb hm8 hk8
        go_wp2_with (first
          | rw [hW8]
          | (refine wpList_store_row rfl 32 _ _ rfl kb #[.int .i64 y0, .int .i64 y1, .string ⟨y2.toArray⟩, .int .i64 y3, .int .i64 y4] rfl rfl 32 _ H8.out sizePl rfl (plV_one _ _ _ _ _) ?_)
          | fail)
        refine bodyPost_ret (results_pl2 rfl _ _ kb 32 (.int .i64 y0) (.int .i64 y1) (.string ⟨y2.toArray⟩) (.int .i64 y3) (.int .i64 y4) (.bool z) rfl rfl (H8.out.rowed _)) rfl ?_
        exact ⟨rfl, HR.out⟩
      · have HKL := Lib.hid ((kless x2 p2).trans hr)
        have HPR2 := Lib.hid (show ∀ z ∈ (delL p2 l).take (i + 1), bytesBefore z.key p2 = true from fun z hz => by
          rw [List.take_add_one, HY.out] at hz
          rcases List.mem_append.1 hz with hz | hz
          · exact HPRE.out z hz
          · simp at hz
            rw [hz]; exact hr)
        have hmm := HML.out.2
        clear hr
        go_wp2_with (fail)
        refine wp_region_facts (E := Grows) [valFact (.int .i64 (i : Int)), valFact (.slice (some ad) m c8), valFact (.int .i64 (m : Int)), valFact (.bool true), valFact (.bool true), valFact (.slice (some ad) m c8), valFact (.int .i64 (i : Int)), valFact (.pointer (some (ad.add (i * 5)))), valFact (.pointer (some { block := (ad.add (i * 5)).block, off := (ad.add (i * 5)).off + 1 })), valFact (.pointer (some { block := (ad.add (i * 5)).block, off := (ad.add (i * 5)).off + 2 })), valFact (.string ⟨x2.toArray⟩), valFact (.pointer (some ⟨pb, 1, none⟩)), valFact (.pointer (some ⟨pb, 2, none⟩)), valFact (.string ⟨p2.toArray⟩), valFact (.bool true), valFact (.bool true)] (by kernel_rfl) (by kernel_rfl) (fun _ _ _ => Grows.trans) (grows_drew _) ?_
        refine f_val (.int .i64 (i : Int)) (by rfl) ?_ ?_
        · intro w' hC; clear hC; go_simp
        simp only [Act.put, List.setIfInBounds_toArray, List.set_cons_zero, List.set_cons_succ]
        refine f_val (.slice (some ad) m c8) (by rfl) ?_ ?_
        · intro w' hC; clear hC; go_simp
        simp only [Act.put, List.setIfInBounds_toArray, List.set_cons_zero, List.set_cons_succ]
        refine f_val (.int .i64 (m : Int)) (by rfl) ?_ ?_
        · intro w' hC; clear hC; go_simp
        simp only [Act.put, List.setIfInBounds_toArray, List.set_cons_zero, List.set_cons_succ]
        refine f_val (.bool true) (by rfl) ?_ ?_
        · intro w' hC; clear hC; go_simp
        simp only [Act.put, List.setIfInBounds_toArray, List.set_cons_zero, List.set_cons_succ]
        refine f_val (.bool true) (by rfl) ?_ ?_
        · intro w' hC; clear hC; go_simp
        simp only [Act.put, List.setIfInBounds_toArray, List.set_cons_zero, List.set_cons_succ]
        refine f_val (.slice (some ad) m c8) (by rfl) ?_ ?_
        · intro w' hC; clear hC; go_simp
        simp only [Act.put, List.setIfInBounds_toArray, List.set_cons_zero, List.set_cons_succ]
        refine f_val (.int .i64 (i : Int)) (by rfl) ?_ ?_
        · intro w' hC; clear hC; go_simp
        simp only [Act.put, List.setIfInBounds_toArray, List.set_cons_zero, List.set_cons_succ]
        refine f_val (.pointer (some (ad.add (i * 5)))) (by rfl) ?_ ?_
        · intro w' hC; clear hC; go_simp
        simp only [Act.put, List.setIfInBounds_toArray, List.set_cons_zero, List.set_cons_succ]
        refine f_val (.pointer (some { block := (ad.add (i * 5)).block, off := (ad.add (i * 5)).off + 1 })) (by rfl) ?_ ?_
        · intro w' hC; clear hC; go_simp
        simp only [Act.put, List.setIfInBounds_toArray, List.set_cons_zero, List.set_cons_succ]
        refine f_val (.pointer (some { block := (ad.add (i * 5)).block, off := (ad.add (i * 5)).off + 2 })) (by rfl) ?_ ?_
        · intro w' hC; clear hC; go_simp
        simp only [Act.put, List.setIfInBounds_toArray, List.set_cons_zero, List.set_cons_succ]
        refine f_val (.string ⟨x2.toArray⟩) (by rfl) ?_ ?_
        · intro w' hC; obtain ⟨c0, c1, c2, c3, c4⟩ := HCY.out w' hC; clear hC; go_simp
        simp only [Act.put, List.setIfInBounds_toArray, List.set_cons_zero, List.set_cons_succ]
        refine f_val (.pointer (some ⟨pb, 1, none⟩)) (by rfl) ?_ ?_
        · intro w' hC; clear hC; go_simp
        simp only [Act.put, List.setIfInBounds_toArray, List.set_cons_zero, List.set_cons_succ]
        refine f_val (.pointer (some ⟨pb, 2, none⟩)) (by rfl) ?_ ?_
        · intro w' hC; clear hC; go_simp
        simp only [Act.put, List.setIfInBounds_toArray, List.set_cons_zero, List.set_cons_succ]
        refine f_val (.string ⟨p2.toArray⟩) (by rfl) ?_ ?_
        · intro w' hC; have z2 := HPB.out w' hC; clear hC; go_simp
        simp only [Act.put, List.setIfInBounds_toArray, List.set_cons_zero, List.set_cons_succ]
        refine f_val (.bool true) (by rfl) ?_ ?_
        · intro w' hC; have z := HKL.out; clear hC; go_simp
        simp only [Act.put, List.setIfInBounds_toArray, List.set_cons_zero, List.set_cons_succ]
        refine f_val (.bool true) (by rfl) ?_ ?_
        · intro w' hC; clear hC; go_simp
        simp only [Act.put, List.setIfInBounds_toArray, List.set_cons_zero, List.set_cons_succ]
        refine wpF_end ?_
        intro w4 hC hks
        have HCw4 := Lib.hid hC
        clear hC hks
        go_wp2_with (fail)
        go_roundw
        case rel => exact ⟨i + 1, hlt, by first | rfl | go_num, HPR2, Lib.hid (Grows.trans HG.out HCw4.out), Lib.hid (HROW.out.grow HCw4.out)⟩
        case measure => simp [intOf]; omega
    · have HPOST := Lib.hid (show ∀ y, (delL p2 l)[i]? = some y → bytesBefore y.key p2 = false from fun y hy => by
        have h1 := (List.getElem?_eq_some_iff.1 hy).1
        have := HML.out
        omega)
      have hnl : ¬ ((i : Int) < (m : Int)) := by omega
      go_wp2_with (fail)
      refine wp_region_facts (E := Grows) [valFact (.int .i64 (i : Int)), valFact (.slice (A8) m c8), valFact (.int .i64 (m : Int)), valFact (.bool false), valFact (.bool false), valFact undef, valFact undef, valFact undef, valFact undef, valFact undef, valFact undef, valFact undef, valFact undef, valFact undef, valFact undef, valFact (.bool false)] (by kernel_rfl) (by kernel_rfl) (fun _ _ _ => Grows.trans) (grows_drew _) ?_
      refine f_val (.int .i64 (i : Int)) (by rfl) ?_ ?_
      · intro w' hC; clear hC; go_simp
      simp only [Act.put, List.setIfInBounds_toArray, List.set_cons_zero, List.set_cons_succ]
      refine f_val (.slice (A8) m c8) (by rfl) ?_ ?_
      · intro w' hC; clear hC; go_simp
      simp only [Act.put, List.setIfInBounds_toArray, List.set_cons_zero, List.set_cons_succ]
      refine f_val (.int .i64 (m : Int)) (by rfl) ?_ ?_
      · intro w' hC; clear hC; go_simp
      simp only [Act.put, List.setIfInBounds_toArray, List.set_cons_zero, List.set_cons_succ]
      refine f_val (.bool false) (by rfl) ?_ ?_
      · intro w' hC; clear hC; go_simp
      simp only [Act.put, List.setIfInBounds_toArray, List.set_cons_zero, List.set_cons_succ]
      refine f_val (.bool false) (by rfl) ?_ ?_
      · intro w' hC; clear hC; go_simp
      simp only [Act.put, List.setIfInBounds_toArray, List.set_cons_zero, List.set_cons_succ]
      refine f_skip (by rfl) ?_
      simp only [Act.put, List.setIfInBounds_toArray, List.set_cons_zero, List.set_cons_succ]
      refine f_skip (by rfl) ?_
      simp only [Act.put, List.setIfInBounds_toArray, List.set_cons_zero, List.set_cons_succ]
      refine f_skip (by rfl) ?_
      simp only [Act.put, List.setIfInBounds_toArray, List.set_cons_zero, List.set_cons_succ]
      refine f_skip (by rfl) ?_
      simp only [Act.put, List.setIfInBounds_toArray, List.set_cons_zero, List.set_cons_succ]
      refine f_skip (by rfl) ?_
      simp only [Act.put, List.setIfInBounds_toArray, List.set_cons_zero, List.set_cons_succ]
      refine f_skip (by rfl) ?_
      simp only [Act.put, List.setIfInBounds_toArray, List.set_cons_zero, List.set_cons_succ]
      refine f_skip (by rfl) ?_
      simp only [Act.put, List.setIfInBounds_toArray, List.set_cons_zero, List.set_cons_succ]
      refine f_skip (by rfl) ?_
      simp only [Act.put, List.setIfInBounds_toArray, List.set_cons_zero, List.set_cons_succ]
      refine f_skip (by rfl) ?_
      simp only [Act.put, List.setIfInBounds_toArray, List.set_cons_zero, List.set_cons_succ]
      refine f_skip (by rfl) ?_
      simp only [Act.put, List.setIfInBounds_toArray, List.set_cons_zero, List.set_cons_succ]
      refine f_val (.bool false) (by rfl) ?_ ?_
      · intro w' hC; clear hC; go_simp
      simp only [Act.put, List.setIfInBounds_toArray, List.set_cons_zero, List.set_cons_succ]
      refine wpF_end ?_
      intro w4 hC hks
      have HCw4 := Lib.hid hC
      clear hC hks
      go_wp2_with (fail)
      obtain ⟨hs1, A2, m2, c3, hs2, hm2, _, hdk⟩ := cut_places (HROW.out.grow HCw4.out) hi (by have := HML.out.2; omega)
      have HS1 := Lib.hid hs1
      have HS2 := Lib.hid hs2
      have HG4 := Lib.hid (Grows.trans HG.out HCw4.out)
      have HUK := Lib.hid (show ∀ w', Keep5 w4.heap.size w4 w' → Pls w' (A8) m c8 (delL p2 l) from fun w' hC => pls_keep (HROW.out.grow HCw4.out) hC)
      have HTK := Lib.hid (show ∀ w', Keep5 w4.heap.size w4 w' → 0 < i → LiesP w' (A8) ((delL p2 l).take i) from fun w' hC hp => by
        obtain ⟨aX, _, e, _⟩ := Pls.at (HUK.out w' hC) (i := 0) (by omega)
        refine ⟨aX, e, ?_⟩
        have h1 := HUK.out w' hC
        rw [e] at h1
        exact places_take h1 i)
      have HDK := Lib.hid (show ∀ w', Keep5 w4.heap.size w4 w' → 0 < m2 → LiesP w' A2 ((delL p2 l).drop i) from fun w' hC hp => by
        obtain ⟨aX, e, hh⟩ := hdk hp
        exact ⟨aX, e, hh w' (HUK.out w' hC)⟩)
      have HLN := Lib.hid (show ((((delL p2 l).take i).length = i ∧ 0 + i ≤ 1000000) ∧ (([(⟨p0, p1, p2, p3, p4⟩ : Pl)]).length = 1 ∧ i + 1 ≤ 1000000) ∧ (((delL p2 l).drop i).length = m2 ∧ i + 1 + m2 ≤ 1000000)) from by
        have h1 := HML.out
        exact ⟨⟨by rw [List.length_take]; omega, by omega⟩, ⟨rfl, by omega⟩, ⟨by rw [List.length_drop]; omega, by omega⟩⟩)
      have HP4 := Lib.hid (show ∀ w', Keep5 w4.heap.size w4 w' → w'.cell? ⟨pb, 0, none⟩ = some (.int .i64 p0) ∧ w'.cell? ⟨pb, 1, none⟩ = some (.int .i64 p1) ∧ w'.cell? ⟨pb, 2, none⟩ = some (.string ⟨p2.toArray⟩) ∧ w'.cell? ⟨pb, 3, none⟩ = some (.int .i64 p3) ∧ w'.cell? ⟨pb, 4, none⟩ = some (.int .i64 p4) from fun w' hC => by
        have h1 := HG4.out.whole H2.out.2.2.1
        have h2 : Whole w' pb 32 #[.int .i64 p0, .int .i64 p1, .string ⟨p2.toArray⟩, .int .i64 p3, .int .i64 p4] := (hC.sp.same pb h1.lt (by have := h1.lt; omega)).trans h1
        refine ⟨?_, ?_, ?_, ?_, ?_⟩ <;> (rw [h2.cell]; rfl))
      clear hs1 hs2 hm2 hdk
      go_wp2_with (fail)
      refine wp_region_jobs (G := Grows) (E := Keep5 (w4.heap.size)) 15 [vJob (w4.heap.size) (.pointer (some ⟨q, 0, none⟩)), cJob (w4.heap.size) Nat 0 (fun g => .slice (some ⟨g, 0, none⟩) 0 0) (fun g w' => Chain (w4.heap.size) [] 0 (some ⟨g, 0, none⟩) 0 w') (fun _ _ _ h hg => h.grow hg), vJob (w4.heap.size) (.slice (A8) m c8), vJob (w4.heap.size) (.int .i64 (i : Int)), vJob (w4.heap.size) (.slice (A8) i c8), cJob (w4.heap.size) (Option Addr × Nat) (none, 0) (fun p => .slice p.1 (i) p.2) (fun p w' => Chain (w4.heap.size) ((delL p2 l).take i) (i) p.1 p.2 w') (fun _ _ _ h hg => h.grow hg), vJob (w4.heap.size) (.agg #[.int .i64 p0, .int .i64 p1, .string ⟨p2.toArray⟩, .int .i64 p3, .int .i64 p4]), mJob (w4.heap.size) (32) (#[.int .i64 p0, .int .i64 p1, .string ⟨p2.toArray⟩, .int .i64 p3, .int .i64 p4]) rfl, cJob (w4.heap.size) (Option Addr × Nat) (none, 0) (fun p => .slice p.1 (i + 1) p.2) (fun p w' => Chain (w4.heap.size) ((delL p2 l).take i ++ [(⟨p0, p1, p2, p3, p4⟩ : Pl)]) (i + 1) p.1 p.2 w') (fun _ _ _ h hg => h.grow hg), vJob (w4.heap.size) (.slice (A8) m c8), vJob (w4.heap.size) (.int .i64 (i : Int)), vJob (w4.heap.size) (.slice A2 m2 c3), cJob (w4.heap.size) (Option Addr × Nat) (none, 0) (fun p => .slice p.1 (i + 1 + m2) p.2) (fun p w' => Chain (w4.heap.size) ((delL p2 l).take i ++ [(⟨p0, p1, p2, p3, p4⟩ : Pl)] ++ (delL p2 l).drop i) (i + 1 + m2) p.1 p.2 w') (fun _ _ _ h hg => h.grow hg), vJob (w4.heap.size) (.pointer (some ⟨q, 0, none⟩)), vJob (w4.heap.size) (.pointer (some ⟨q, 0, none⟩))] [(false, false), (true, true), (false, false), (false, false), (false, false), (true, true), (false, false), (false, false), (true, true), (false, false), (false, false), (false, false), (true, true), (false, false), (false, false)] (fun _ => True) rfl mixed (by kernel_rfl) (fun _ _ => Keep5.ofGrows) (fun _ _ _ => Keep5.trans) (keep5_drew _ _) trivial (fun _ _ h _ => h) ?_
      simp only [List.take_succ_cons, List.take_zero, List.drop_succ_cons, List.drop_zero]
      refine ke_val (.pointer (some ⟨q, 0, none⟩)) (by rfl) ?_ ?_
      · intro w' hC; clear hC; go_simp
      simp only [Act.put, List.setIfInBounds_toArray, List.set_cons_zero, List.set_cons_succ]
      refine ke_cls (by rfl) (fun w' hC hcls hks => ⟨w'.heap.size, w'.alloc (.cells #[] 32), by go_simp, Keep5.ofGrows (grows_alloc _ _), ⟨World.ownsRow_lit w' #[] 0 hC.sp.size (Nat.zero_le _) rfl, fun _ => rfl, by simp⟩⟩) ?_
      intro g1
      dsimp only
      simp only [Act.put, List.setIfInBounds_toArray, List.set_cons_zero, List.set_cons_succ]
      refine ke_val (.slice (A8) m c8) (by rfl) ?_ ?_
      · intro w' hC; clear hC; go_simp
      simp only [Act.put, List.setIfInBounds_toArray, List.set_cons_zero, List.set_cons_succ]
      refine ke_val (.int .i64 (i : Int)) (by rfl) ?_ ?_
      · intro w' hC; clear hC; go_simp
      simp only [Act.put, List.setIfInBounds_toArray, List.set_cons_zero, List.set_cons_succ]
      refine ke_val (.slice (A8) i c8) (by rfl) ?_ ?_
      · intro w' hC; have z := HS1.out w'; clear hC; go_simp
      simp only [Act.put, List.setIfInBounds_toArray, List.set_cons_zero, List.set_cons_succ]
      refine ke_cls (by rfl) (fun w' hC hcls hks => ?_) ?_
      · obtain ⟨A', c', w2, hr, hc2, hk2⟩ := chain_append (ty := 54) hcls (fun hp => HTK.out w' hC hp) HLN.out.1 hC.sp.size (k := i) (Nat.zero_add i) (l3 := (delL p2 l).take i) rfl
        exact ⟨(A', c'), w2, exec_appK rfl rfl rfl hr, hk2, hc2⟩
      rintro ⟨B2, d2⟩
      dsimp only
      simp only [Act.put, List.setIfInBounds_toArray, List.set_cons_zero, List.set_cons_succ]
      refine ke_val (.agg #[.int .i64 p0, .int .i64 p1, .string ⟨p2.toArray⟩, .int .i64 p3, .int .i64 p4]) (by rfl) ?_ ?_
      · intro w' hC; obtain ⟨z0, z1, z2, z3, z4⟩ := HP4.out w' hC; clear hC; go_simp
      simp only [Act.put, List.setIfInBounds_toArray, List.set_cons_zero, List.set_cons_succ]
      refine ke_made (32) (#[.int .i64 p0, .int .i64 p1, .string ⟨p2.toArray⟩, .int .i64 p3, .int .i64 p4]) rfl (by rfl) ?_ ?_
      · intro w' hC; clear hC; go_simp
      intro g2
      simp only [Act.put, List.setIfInBounds_toArray, List.set_cons_zero, List.set_cons_succ]
      refine ke_cls (by rfl) (fun w' hC hcls hks => ?_) ?_
      · obtain ⟨A', c', w2, hr, hc2, hk2⟩ := chain_append (ty := 54) hcls (l2 := [(⟨p0, p1, p2, p3, p4⟩ : Pl)]) (fun _ => ⟨⟨g2, 0, none⟩, rfl, fun t u hu => cell_litP (Known.get hks 0 rfl rfl) t u hu⟩) HLN.out.2.1 hC.sp.size (k := i + 1) rfl (l3 := (delL p2 l).take i ++ [(⟨p0, p1, p2, p3, p4⟩ : Pl)]) rfl
        exact ⟨(A', c'), w2, exec_appK rfl rfl rfl hr, hk2, hc2⟩
      rintro ⟨B3, d3⟩
      dsimp only
      simp only [Act.put, List.setIfInBounds_toArray, List.set_cons_zero, List.set_cons_succ]
      refine ke_val (.slice (A8) m c8) (by rfl) ?_ ?_
      · intro w' hC; clear hC; go_simp
      simp only [Act.put, List.setIfInBounds_toArray, List.set_cons_zero, List.set_cons_succ]
      refine ke_val (.int .i64 (i : Int)) (by rfl) ?_ ?_
      · intro w' hC; clear hC; go_simp
      simp only [Act.put, List.setIfInBounds_toArray, List.set_cons_zero, List.set_cons_succ]
      refine ke_val (.slice A2 m2 c3) (by rfl) ?_ ?_
      · intro w' hC; have z := HS2.out w'; clear hC; go_simp
      simp only [Act.put, List.setIfInBounds_toArray, List.set_cons_zero, List.set_cons_succ]
      refine ke_cls (by rfl) (fun w' hC hcls hks => ?_) ?_
      · obtain ⟨A', c', w2, hr, hc2, hk2⟩ := chain_append (ty := 54) hcls (fun hp => HDK.out w' hC hp) HLN.out.2.2 hC.sp.size (k := i + 1 + m2) rfl (l3 := (delL p2 l).take i ++ [(⟨p0, p1, p2, p3, p4⟩ : Pl)] ++ (delL p2 l).drop i) rfl
        exact ⟨(A', c'), w2, exec_appK rfl rfl rfl hr, hk2, hc2⟩
      rintro ⟨B5, d5⟩
      dsimp only
      simp only [Act.put, List.setIfInBounds_toArray, List.set_cons_zero, List.set_cons_succ]
      refine ke_val (.pointer (some ⟨q, 0, none⟩)) (by rfl) ?_ ?_
      · intro w' hC; clear hC; go_simp
      simp only [Act.put, List.setIfInBounds_toArray, List.set_cons_zero, List.set_cons_succ]
      refine ke_val (.pointer (some ⟨q, 0, none⟩)) (by rfl) ?_ ?_
      · intro w' hC; clear hC; go_simp
      simp only [Act.put, List.setIfInBounds_toArray, List.set_cons_zero, List.set_cons_succ]
      refine ke_end ?_
      intro w7 hC hks hcls
      have HCw7 := Lib.hid hC
      have HLw7 := Lib.hid hcls
      clear hC hks hcls
      have hlow : ∀ k, k < w4.heap.size → w7.heap[k]? = w4.heap[k]? := fun k hk => HCw7.out.sp.same k hk (by omega)
      have hbx : Boxed w7 q 56 (.slice A n c) := (hlow q (HG4.out.whole H2.out.2.1).lt).trans (HG4.out.whole H2.out.2.1)
      have d0 := hbx.cell
      have fz : w7.frozen? ⟨q, 0, none⟩ = false := Whole.free (show Whole w7 q 56 #[_] from hbx) 0
      obtain ⟨W8, hW8⟩ : ∃ W, w7.setCell ⟨q, 0, none⟩ (.slice B5 (i + 1 + m2) d5) = W := ⟨_, rfl⟩
      have hgb := HG4.out.whole H2.out.2.2.2.1
      have hkb := HG4.out.whole H2.out.2.2.2.2
      have hm8 : Whole W8 gb 32 #[.int .i64 y0, .int .i64 y1, .string ⟨y2.toArray⟩, .int .i64 y3, .int .i64 y4] := by
        rw [← hW8]
        exact (Below.heap_setCell _ _ _ _ HNE.out.1).trans ((hlow gb hgb.lt).trans hgb)
      have hk8 : Whole W8 kb 32 #[.int .i64 0, .int .i64 0, .string ⟨#[]⟩, .int .i64 0, .int .i64 0] := by
        rw [← hW8]
        exact (Below.heap_setCell _ _ _ _ HNE.out.2.1).trans ((hlow kb hkb.lt).trans hkb)
      have e0 := hm8.cell 0
      have e1 := hm8.cell 1
      have e2 := hm8.cell 2
      have e3 := hm8.cell 3
      have e4 := hm8.cell 4
      simp only [List.getElem?_toArray, List.getElem?_cons_zero, List.getElem?_cons_succ] at e0 e1 e2 e3 e4
      have H8 := Lib.hid hk8
      have HR := Lib.hid (show RkTo w q A (kputL ⟨p0, p1, p2, p3, p4⟩ l) (W8.setRow kb #[.int .i64 y0, .int .i64 y1, .string ⟨y2.toArray⟩, .int .i64 y3, .int .i64 y4]) from by
        rw [← hW8]
        have hgw : Grows w w4 := Grows.trans H2.out.1 HG4.out
        refine RkTo.made (B := w4.heap.size) HNE.out.2.2.1 hkb.lt HNE.out.2.2.2 ((Spares.grows hgw).trans HCw7.out.sp) ?_ hbx _
        have hins : kputL ⟨p0, p1, p2, p3, p4⟩ l = (delL p2 l).take i ++ [(⟨p0, p1, p2, p3, p4⟩ : Pl)] ++ (delL p2 l).drop i := insL_at HPRE.out HPOST.out
        rw [hins]
        exact HLw7.out.own)
      clear hlow hbx hgb hkb hm8 hk8
      go_wp2_with (first
        | rw [hW8]
        | (refine wpList_store_row rfl 32 _ _ rfl kb #[.int .i64 y0, .int .i64 y1, .string ⟨y2.toArray⟩, .int .i64 y3, .int .i64 y4] rfl rfl 32 _ H8.out sizePl rfl (plV_one _ _ _ _ _) ?_)
        | fail)
      refine bodyPost_ret (results_pl2 rfl _ _ kb 32 (.int .i64 y0) (.int .i64 y1) (.string ⟨y2.toArray⟩) (.int .i64 y3) (.int .i64 y4) (.bool z) rfl rfl (H8.out.rowed _)) rfl ?_
      exact ⟨rfl, HR.out⟩
end Go.Proofs.Ytadgbobemmfjoaa
