/-
  What Remove and Rename do to names.
-/
import Derived.Test.YtmfhpfehphbklaaDkDo2
namespace Go.Proofs.Ytmfhpfehphbklaa
open Go.RowKit Go.Maps Go.WideMaps
set_option linter.unusedVariables false
set_option linter.unusedSimpArgs false

def takenFact (N : Nat) (n : Nm) : Fact Grows :=
  ⟨Nat, 0, fun p => .func (.func 89) #[] #[.pointer (some ⟨p, 0, none⟩)], fun p w => Whole w p 9 #[strB n] ∧ N ≤ p, fun _ _ _ h hg => ⟨hg.whole h.1, h.2⟩⟩
def movedFact (N : Nat) (n to : Nm) : Fact Grows :=
  ⟨Nat × Nat, (0, 0), fun p => .func (.func 88) #[] #[.pointer (some ⟨p.1, 0, none⟩), .pointer (some ⟨p.2, 0, none⟩)], fun p w => Whole w p.1 9 #[strB n] ∧ Whole w p.2 9 #[strB to] ∧ N ≤ p.1 ∧ N ≤ p.2, fun _ _ _ h hg => ⟨hg.whole h.1, hg.whole h.2.1, h.2.2⟩⟩

section
variable {w : World} {d : Nat} {own : Nat → Prop} {G : Geo} {m : Dk}

/-- A change, what it has copied being new. -/
theorem change_at {w w2 : World} (h : DkAt w d own G m) (hg : Grows w w2) (new : Nat → Prop) (hnew : ∀ k, new k → w.heap.size ≤ k ∧ k < w2.heap.size) {v : Value} {c : Ch} (hc : ChAt w2 (fun k => own k ∨ new k) m.made G.loc v c)
    (h2 : m.pend.length ≤ 1000000000) (h3 : m.names.length ≤ 1000000000) :
    Calls Try.prog 51 #[.pointer (some ⟨d, 0, none⟩), v] w2 fun e w' => e = .returned (.tuple #[]) ∧ DkTo w d own w' (m.change c) := by
  have h1 := h.grow hg
  have r2 : DkRest w2 (fun k => own k ∨ new k) G m := h1.rest.wider (fun k hk => .inl hk) fun k hk => hk.elim (h1.rest.lt k) fun e => (hnew k e).2
  have hnd : ¬ (own d ∨ new d) := fun e => e.elim h.free fun e => by have := (hnew d e).1; have := h.top.lt; omega
  refine (change_any w2 r2 h1.top hnd hc h2 h3).mono ?_
  rintro e w3 ⟨rfl, ⟨own3, G3, r3, t3, n3, o3⟩, s3⟩
  refine ⟨rfl, own3, G3, ⟨r3, t3, n3⟩, ?_, ?_⟩
  · refine ((Spares.grows hg).trans (s3.wider (own' := fun k => (k = d ∨ own k) ∨ w.heap.size ≤ k) fun k _ hk => ?_)).wider fun k hk h => h.elim id fun h => by omega
    rcases hk with e | e | e
    · exact .inl (.inl e)
    · exact .inl (.inr e)
    · exact .inr (hnew k e).1
  · intro k hk
    rcases o3 k hk with (e | e) | e
    · exact .inl e
    · exact .inr (hnew k e).1
    · exact .inr (Nat.le_trans hg.size e)

set_option maxHeartbeats 4000000 in
set_option maxRecDepth 100000 in
theorem remove_do (w : World) {n : Nm} (h : DkAt w d own G m) {i : Nat} (hi : i < m.made) {a0 b0 d0 : Nat} (ha : Whole w a0 40 #[ptrV d]) (hb : Whole w b0 91 #[ptrV (G.loc i)]) (hd : Whole w d0 9 #[strB n])
    (ho : ∀ k, k = a0 ∨ k = b0 ∨ k = d0 → k ≠ d ∧ ¬ own k) (hn : n.length ≤ 1000000) (h2 : m.pend.length ≤ 1000000000) (h3 : m.names.length ≤ 1000000000) :
    Calls Try.prog 65 #[ptrV a0, ptrV b0, ptrV d0] w fun e w' => e = .returned (.tuple #[]) ∧ DkTo w d own w' (m.doRemove i n) := by
  obtain ⟨A0, c0, hA0, _⟩ := slice_of_owned (h.rest.rows i hi)
  have hc := h.rest.cells i hi
  rw [hA0] at hc
  have HCL := Lib.hid (show ∀ w', Grows w w' → w'.cell? ⟨a0, 0, none⟩ = some (.pointer (some ⟨d, 0, none⟩)) ∧ w'.cell? ⟨b0, 0, none⟩ = some (.pointer (some ⟨G.loc i, 0, none⟩)) ∧ w'.cell? ⟨d, 2, none⟩ = some (.int .i64 m.used) ∧ w'.cell? ⟨G.loc i, 1, none⟩ = some (.slice A0 (m.files i).bytes.length c0)
    from fun w' hg => ⟨hg.cellq ha, hg.cellq hb, hg.cellq h.top, hg.cellq hc⟩)
  have HDK := Lib.hid h
  have HA := Lib.hid (And.intro ha (And.intro hd ho))
  have HB := Lib.hid (And.intro h2 (And.intro h3 hn))
  clear h ha hb hd ho h2 h3 hn hc hA0
  generalize hmd : m.used = us at HCL
  have HMD := Lib.hid hmd
  clear hmd
  generalize hfl : (m.files i).bytes.length = nf at HCL
  have HFL := Lib.hid hfl
  clear hfl
  generalize G.loc i = lf at HCL
  unfold ptrV
  go_enter Try.func65, Try.ntmps65
  go_wp2_with (fail)
  refine wp_region_facts_tail (E := Grows) 12 [valFact (.pointer (some ⟨d, 0, none⟩)), valFact (.pointer (some ⟨d, 0, none⟩)), valFact (.pointer (some ⟨d, 2, none⟩)), valFact (.int .i64 us), valFact (.pointer (some ⟨lf, 0, none⟩)), valFact (.pointer (some ⟨lf, 0, none⟩)), valFact (.pointer (some ⟨lf, 1, none⟩)), valFact (.slice A0 nf c0), valFact (.int .i64 (nf : Int)), valFact (.int .i64 (wrap64 (us - nf))), valFact (.pointer (some ⟨d, 0, none⟩)), valFact (.pointer (some ⟨d, 2, none⟩))] mixed (by kernel_rfl) (fun _ _ _ => Grows.trans) (grows_drew _) ?_
  simp only [List.take_succ_cons, List.take_zero, List.drop_succ_cons, List.drop_zero]
  refine f_val (.pointer (some ⟨d, 0, none⟩)) (by rfl) ?_ ?_
  · intro w' hC; obtain ⟨q1, q2, q3, q4⟩ := HCL.out w' hC; clear hC; go_simp
  simp only [Act.put, List.setIfInBounds_toArray, List.set_cons_zero, List.set_cons_succ]
  refine f_val (.pointer (some ⟨d, 0, none⟩)) (by rfl) ?_ ?_
  · intro w' hC; obtain ⟨q1, q2, q3, q4⟩ := HCL.out w' hC; clear hC; go_simp
  simp only [Act.put, List.setIfInBounds_toArray, List.set_cons_zero, List.set_cons_succ]
  refine f_val (.pointer (some ⟨d, 2, none⟩)) (by rfl) ?_ ?_
  · intro w' hC; obtain ⟨q1, q2, q3, q4⟩ := HCL.out w' hC; clear hC; go_simp
  simp only [Act.put, List.setIfInBounds_toArray, List.set_cons_zero, List.set_cons_succ]
  refine f_val (.int .i64 us) (by rfl) ?_ ?_
  · intro w' hC; obtain ⟨q1, q2, q3, q4⟩ := HCL.out w' hC; clear hC; go_simp
  simp only [Act.put, List.setIfInBounds_toArray, List.set_cons_zero, List.set_cons_succ]
  refine f_val (.pointer (some ⟨lf, 0, none⟩)) (by rfl) ?_ ?_
  · intro w' hC; obtain ⟨q1, q2, q3, q4⟩ := HCL.out w' hC; clear hC; go_simp
  simp only [Act.put, List.setIfInBounds_toArray, List.set_cons_zero, List.set_cons_succ]
  refine f_val (.pointer (some ⟨lf, 0, none⟩)) (by rfl) ?_ ?_
  · intro w' hC; obtain ⟨q1, q2, q3, q4⟩ := HCL.out w' hC; clear hC; go_simp
  simp only [Act.put, List.setIfInBounds_toArray, List.set_cons_zero, List.set_cons_succ]
  refine f_val (.pointer (some ⟨lf, 1, none⟩)) (by rfl) ?_ ?_
  · intro w' hC; obtain ⟨q1, q2, q3, q4⟩ := HCL.out w' hC; clear hC; go_simp
  simp only [Act.put, List.setIfInBounds_toArray, List.set_cons_zero, List.set_cons_succ]
  refine f_val (.slice A0 nf c0) (by rfl) ?_ ?_
  · intro w' hC; obtain ⟨q1, q2, q3, q4⟩ := HCL.out w' hC; clear hC; go_simp
  simp only [Act.put, List.setIfInBounds_toArray, List.set_cons_zero, List.set_cons_succ]
  refine f_val (.int .i64 (nf : Int)) (by rfl) ?_ ?_
  · intro w' hC; clear hC; go_simp
  simp only [Act.put, List.setIfInBounds_toArray, List.set_cons_zero, List.set_cons_succ]
  refine f_val (.int .i64 (wrap64 (us - nf))) (by rfl) ?_ ?_
  · intro w' hC; clear hC; (go_simp; unfold wrap64; rw [IntKind.wrap_i64])
  simp only [Act.put, List.setIfInBounds_toArray, List.set_cons_zero, List.set_cons_succ]
  refine f_val (.pointer (some ⟨d, 0, none⟩)) (by rfl) ?_ ?_
  · intro w' hC; obtain ⟨q1, q2, q3, q4⟩ := HCL.out w' hC; clear hC; go_simp
  simp only [Act.put, List.setIfInBounds_toArray, List.set_cons_zero, List.set_cons_succ]
  refine f_val (.pointer (some ⟨d, 2, none⟩)) (by rfl) ?_ ?_
  · intro w' hC; obtain ⟨q1, q2, q3, q4⟩ := HCL.out w' hC; clear hC; go_simp
  simp only [Act.put, List.setIfInBounds_toArray, List.set_cons_zero, List.set_cons_succ]
  refine wpF_end ?_
  intro w2 hC hks
  have HCw2 := Lib.hid hC
  clear hC hks
  have c2 := (HCL.out w2 HCw2.out).2.2.1
  have f2 := (HDK.out.grow HCw2.out).top.free 2
  go_wp2_with (fail)
  obtain ⟨w3, hw3⟩ : ∃ w3, w2.setCell ⟨d, 2, none⟩ (.int .i64 (wrap64 (us - nf))) = w3 := ⟨_, rfl⟩
  rw [hw3]
  have hne : ∀ k, k = a0 ∨ k = b0 ∨ k = d0 → k ≠ d := fun k hk => (HA.out.2.2 k hk).1
  have h3 : DkAt w3 d own G { m with used := wrap64 (us - nf) } := hw3 ▸ (HDK.out.grow HCw2.out).set 2 _ rfl rfl rfl rfl rfl rfl
  have s3 : Spares (fun k => k = d) w w3 := hw3 ▸ (Spares.grows (own := fun k => k = d) HCw2.out).setCell (p := ⟨d, 2, none⟩) rfl _
  have ka : Whole w3 a0 40 #[ptrV d] := HA.out.1.same (s3.same a0 HA.out.1.lt (hne a0 (.inl rfl)))
  have kd : Whole w3 d0 9 #[strB n] := HA.out.2.1.same (s3.same d0 HA.out.2.1.lt (hne d0 (.inr (.inr rfl))))
  have HC3 := Lib.hid (show ∀ w', Grows w3 w' → w'.cell? ⟨a0, 0, none⟩ = some (.pointer (some ⟨d, 0, none⟩)) ∧ w'.cell? ⟨d0, 0, none⟩ = some (.string ⟨n.toArray⟩) from fun w' hg => ⟨hg.cellq ka, hg.cellq kd⟩)
  have H3 := Lib.hid h3
  have S3 := Lib.hid s3
  clear h3 s3 ka kd hne hw3 c2 f2
  refine wp_region_facts_tail (E := Grows) 3 [valFact (.pointer (some ⟨d, 0, none⟩)), valFact (.string ⟨n.toArray⟩), takenFact w3.heap.size n] mixed (by kernel_rfl) (fun _ _ _ => Grows.trans) (grows_drew _) ?_
  simp only [List.take_succ_cons, List.take_zero, List.drop_succ_cons, List.drop_zero]
  refine f_val (.pointer (some ⟨d, 0, none⟩)) (by rfl) ?_ ?_
  · intro w' hC; obtain ⟨q1, q2⟩ := HC3.out w' hC; clear hC; go_simp
  simp only [Act.put, List.setIfInBounds_toArray, List.set_cons_zero, List.set_cons_succ]
  refine f_val (.string ⟨n.toArray⟩) (by rfl) ?_ ?_
  · intro w' hC; obtain ⟨q1, q2⟩ := HC3.out w' hC; clear hC; go_simp
  simp only [Act.put, List.setIfInBounds_toArray, List.set_cons_zero, List.set_cons_succ]
  refine f_tell (by rfl) ?_ ?_
  · intro w' hC _
    refine gives_call (f := 66) (args := #[.string ⟨n.toArray⟩]) (by clear hC; go_simp) ?_
    refine (taken_any n w' HB.out.2.2).mono ?_
    rintro e w'' ⟨a, rfl, k1, k3, k5⟩
    exact ⟨k5, a, rfl, k1, Nat.le_trans hC.size k3⟩
  intro a2
  show wpF _ _ _ _ _ _ _ _ (Act.put _ _ (.func (.func 89) #[] #[.pointer (some ⟨a2, 0, none⟩)]))
  simp only [Act.put, List.setIfInBounds_toArray, List.set_cons_zero, List.set_cons_succ]
  refine wpF_end ?_
  intro w4 hC hks
  have HCw4 := Lib.hid hC
  have HF := Lib.hid (Known.at hks 0 rfl)
  clear hC hks
  have hch : ChAt w4 (fun k => own k ∨ k = a2) m.made G.loc (.func (.func 89) #[] #[.pointer (some ⟨a2, 0, none⟩)]) (.taken n) :=
    ⟨by have := HB.out.2.2; unfold maxLen; omega, a2, rfl, .inr rfl, HF.out.1⟩
  have HCH := Lib.hid (change_at H3.out HCw4.out (fun k => k = a2) (fun k hk => hk ▸ ⟨HF.out.2, HF.out.1.lt⟩) hch HB.out.1 HB.out.2.1)
  clear hch
  go_wp2_with (fail)
  refine HCH.out.mono ?_
  rintro e w5 ⟨rfl, h5⟩
  have H5 := Lib.hid h5
  clear h5
  go_wp2_with (fail)
  go_end0
  obtain rfl := HMD.out
  obtain rfl := HFL.out
  exact ⟨rfl, DkTo.behind S3.out H5.out⟩

set_option maxHeartbeats 4000000 in
set_option maxRecDepth 100000 in
theorem rename_do (w : World) {n to : Nm} (h : DkAt w d own G m) {a0 b0 d0 : Nat} (ha : Whole w a0 40 #[ptrV d]) (hb : Whole w b0 9 #[strB to]) (hd : Whole w d0 9 #[strB n])
    (ho : ∀ k, k = a0 ∨ k = b0 ∨ k = d0 → k ≠ d ∧ ¬ own k) (hn : n.length ≤ 1000000) (ht : to.length ≤ 1000000) (h2 : m.pend.length ≤ 1000000000) (h3 : m.names.length ≤ 1000000000) :
    Calls Try.prog 63 #[ptrV a0, ptrV b0, ptrV d0] w fun e w' => e = .returned (.tuple #[]) ∧ DkTo w d own w' (m.doRename n to) := by
  have c0 : w.cell? ⟨a0, 0, none⟩ = some (.pointer (some ⟨d, 0, none⟩)) := ha.cell 0
  have c1 : w.cell? ⟨b0, 0, none⟩ = some (.string ⟨to.toArray⟩) := hb.cell 0
  have c2 : w.cell? ⟨d, 2, none⟩ = some (.int .i64 m.used) := h.cell 2
  have f2 := h.top.free 2
  have HSZ := Lib.hid (size_any w h (n := to) (by unfold maxLen; omega))
  have HDK := Lib.hid h
  have HA := Lib.hid (And.intro ha (And.intro hb (And.intro hd ho)))
  have HB := Lib.hid (And.intro h2 (And.intro h3 (And.intro hn ht)))
  clear h ha hb hd ho h2 h3 hn ht
  generalize hmd : m.used = us at c2
  have HMD := Lib.hid hmd
  clear hmd
  generalize hsz : (m.size to).1 = sz at HSZ
  have HSE := Lib.hid hsz
  clear hsz
  generalize (m.size to).2 = sb at HSZ
  unfold ptrV
  go_enter Try.func63, Try.ntmps63
  go_wp2_with (fail)
  refine HSZ.out.mono ?_
  rintro e w2 ⟨rfl, rfl⟩
  clear HSZ
  go_wp2_with (fail)
  obtain ⟨w3, hw3⟩ : ∃ w3, w.setCell ⟨d, 2, none⟩ (.int .i64 (wrap64 (us - sz))) = w3 := ⟨_, rfl⟩
  rw [hw3]
  have hne : ∀ k, k = a0 ∨ k = b0 ∨ k = d0 → k ≠ d := fun k hk => (HA.out.2.2.2 k hk).1
  have h3 : DkAt w3 d own G { m with used := wrap64 (us - sz) } := hw3 ▸ HDK.out.set 2 _ rfl rfl rfl rfl rfl rfl
  have s3 : Spares (fun k => k = d) w w3 := hw3 ▸ (Spares.refl (fun k => k = d) w).setCell (p := ⟨d, 2, none⟩) rfl _
  have ka : Whole w3 a0 40 #[ptrV d] := HA.out.1.same (s3.same a0 HA.out.1.lt (hne a0 (.inl rfl)))
  have kb : Whole w3 b0 9 #[strB to] := HA.out.2.1.same (s3.same b0 HA.out.2.1.lt (hne b0 (.inr (.inl rfl))))
  have kd : Whole w3 d0 9 #[strB n] := HA.out.2.2.1.same (s3.same d0 HA.out.2.2.1.lt (hne d0 (.inr (.inr rfl))))
  have HC3 := Lib.hid (show ∀ w', Grows w3 w' → w'.cell? ⟨a0, 0, none⟩ = some (.pointer (some ⟨d, 0, none⟩)) ∧ w'.cell? ⟨d0, 0, none⟩ = some (.string ⟨n.toArray⟩) ∧ w'.cell? ⟨b0, 0, none⟩ = some (.string ⟨to.toArray⟩) from fun w' hg => ⟨hg.cellq ka, hg.cellq kd, hg.cellq kb⟩)
  have H3 := Lib.hid h3
  have S3 := Lib.hid s3
  clear h3 s3 ka kb kd hne hw3 c2 f2 c0 c1
  refine wp_region_facts_tail (E := Grows) 4 [valFact (.pointer (some ⟨d, 0, none⟩)), valFact (.string ⟨n.toArray⟩), valFact (.string ⟨to.toArray⟩), movedFact w3.heap.size n to] mixed (by kernel_rfl) (fun _ _ _ => Grows.trans) (grows_drew _) ?_
  simp only [List.take_succ_cons, List.take_zero, List.drop_succ_cons, List.drop_zero]
  refine f_val (.pointer (some ⟨d, 0, none⟩)) (by rfl) ?_ ?_
  · intro w' hC; obtain ⟨q1, q2, q3⟩ := HC3.out w' hC; clear hC; go_simp
  simp only [Act.put, List.setIfInBounds_toArray, List.set_cons_zero, List.set_cons_succ]
  refine f_val (.string ⟨n.toArray⟩) (by rfl) ?_ ?_
  · intro w' hC; obtain ⟨q1, q2, q3⟩ := HC3.out w' hC; clear hC; go_simp
  simp only [Act.put, List.setIfInBounds_toArray, List.set_cons_zero, List.set_cons_succ]
  refine f_val (.string ⟨to.toArray⟩) (by rfl) ?_ ?_
  · intro w' hC; obtain ⟨q1, q2, q3⟩ := HC3.out w' hC; clear hC; go_simp
  simp only [Act.put, List.setIfInBounds_toArray, List.set_cons_zero, List.set_cons_succ]
  refine f_tell (by rfl) ?_ ?_
  · intro w' hC _
    refine gives_call (f := 64) (args := #[.string ⟨n.toArray⟩, .string ⟨to.toArray⟩]) (by clear hC; go_simp) ?_
    refine (moved_any n to w' HB.out.2.2.1 HB.out.2.2.2).mono ?_
    rintro e w'' ⟨a, b, rfl, k1, k2, k3, k4, k5⟩
    exact ⟨k5, (a, b), rfl, k1, k2, Nat.le_trans hC.size k3, Nat.le_trans hC.size k4⟩
  rintro ⟨a2, b2⟩
  show wpF _ _ _ _ _ _ _ _ (Act.put _ _ (.func (.func 88) #[] #[.pointer (some ⟨a2, 0, none⟩), .pointer (some ⟨b2, 0, none⟩)]))
  simp only [Act.put, List.setIfInBounds_toArray, List.set_cons_zero, List.set_cons_succ]
  refine wpF_end ?_
  intro w4 hC hks
  have HCw4 := Lib.hid hC
  have HF := Lib.hid (Known.at hks 0 rfl)
  clear hC hks
  have hch : ChAt w4 (fun k => own k ∨ k = a2 ∨ k = b2) m.made G.loc (.func (.func 88) #[] #[.pointer (some ⟨a2, 0, none⟩), .pointer (some ⟨b2, 0, none⟩)]) (.moved n to) :=
    ⟨by have := HB.out.2.2.1; unfold maxLen; omega, by have := HB.out.2.2.2; unfold maxLen; omega, a2, b2, rfl, .inr (.inl rfl), .inr (.inr rfl), HF.out.1, HF.out.2.1⟩
  have HCH := Lib.hid (change_at H3.out HCw4.out (fun k => k = a2 ∨ k = b2) (fun k hk => by
    rcases hk with rfl | rfl
    · exact ⟨HF.out.2.2.1, HF.out.1.lt⟩
    · exact ⟨HF.out.2.2.2, HF.out.2.1.lt⟩) hch HB.out.1 HB.out.2.1)
  clear hch
  go_wp2_with (fail)
  refine HCH.out.mono ?_
  rintro e w5 ⟨rfl, h5⟩
  have H5 := Lib.hid h5
  clear h5
  go_wp2_with (fail)
  go_end0
  obtain rfl := HMD.out
  obtain rfl := HSE.out
  exact ⟨rfl, DkTo.behind S3.out H5.out⟩
end
end Go.Proofs.Ytmfhpfehphbklaa

