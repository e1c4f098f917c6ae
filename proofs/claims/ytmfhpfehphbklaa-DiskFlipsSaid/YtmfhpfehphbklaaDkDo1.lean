/-
  What Append and Sync do to a file.
-/
import Derived.Test.YtmfhpfehphbklaaDkThing
import Derived.Test.YtmfhpfehphbklaaJobSteps
namespace Go.Proofs.Ytmfhpfehphbklaa
open Go.RowKit Go.Maps Go.WideMaps
set_option linter.unusedVariables false
set_option linter.unusedSimpArgs false
attribute [local irreducible] Go.wpQuiet

/-- A slice stays where its block does. -/
theorem Sl.off {w w' : World} {A : Option Addr} {n c : Nat} {bs : List UInt8} (h : Sl w A n c bs) (hz : w.heap.size ≤ w'.heap.size) (hA : ∀ ad, A = some ad → bs ≠ [] → ad.block < w.heap.size → w'.heap[ad.block]? = w.heap[ad.block]?) : Sl w' A n c bs := by
  have hr : Row w w.heap.size A n (bs.map byteV) := h.bytes
  refine ⟨(show Row w' w'.heap.size A n (bs.map byteV) from ⟨hr.len, fun k v hv => ?_⟩), h.cap, h.bare⟩
  obtain ⟨ad, he, hb, hc⟩ := hr.spot k v hv
  refine ⟨ad, he, by omega, ?_⟩
  rw [← hc]
  refine World.cell?_of_block ?_
  rw [show (ad.add k).block = ad.block by unfold Addr.add; split <;> rfl]
  exact hA ad he (fun e => by rw [e] at hv; simp at hv) hb

section
variable {w : World} {d : Nat} {own : Nat → Prop} {G : Geo} {m : Dk}
/-- All of a file's bytes are kept: one cell turns. -/
theorem keep_raw (w : World) {b n c : Nat} {A : Option Addr} {x y : Int} (h : Whole w b 98 #[.int .i64 x, .slice A n c, .int .i64 y]) :
    Calls Try.prog 55 #[.pointer (some ⟨b, 0, none⟩)] w fun e w' => e = .returned (.tuple #[]) ∧ w' = w.setCell ⟨b, 2, none⟩ (.int .i64 (n : Int)) := by
  have c1 : w.cell? ⟨b, 1, none⟩ = some (.slice A n c) := h.cell 1
  have c2 : w.cell? ⟨b, 2, none⟩ = some (.int .i64 y) := h.cell 2
  have f2 := h.free 2
  clear h
  go_enter Try.func55, Try.ntmps55
  go_wp2
  go_end0
  exact ⟨rfl, rfl⟩

/-- A file's own block, and its row, have turned: so has the disk. -/
theorem DkAt.filed {w w' : World} (h : DkAt w d own G m) {i : Nat} (hi : i < m.made) {v : Value} {f : Fl} (hc : Whole w' (G.loc i) 98 #[.int .i64 (i : Int), v, .int .i64 (f.kept : Int)])
    (hr : w'.ownsRow 0 5 1 v f.bytes.length (f.bytes.map byteV)) (hv : ∀ k, v.ownBlock = some k → (G.row i).ownBlock = some k ∨ w.heap.size ≤ k)
    (hs : Spares (fun k => k = G.loc i ∨ (G.row i).ownBlock = some k) w w') : DkTo w d own w' (m.setFile i f) := by
  have hold : ∀ k, v.ownBlock = some k → k < w'.heap.size := fun k hk => (hr.lt k hk).2
  have h1 : DkRest w' (fun k => own k ∨ v.ownBlock = some k) { G with row := fun j => if j = i then v else G.row j } (m.setFile i f) :=
    h.rest.filed hi hc hr (fun k hk => .inl hk) (fun k hk => hk.elim (fun hk => Nat.lt_of_lt_of_le (h.rest.lt k hk) hs.size) (hold k)) (fun k hk => .inr hk)
      (fun k hk => (hv k hk).imp id fun hge j hj e => by have := h.rest.lt k (h.rest.or j k hj e); omega)
      (fun k hk h1 h2 => hs.same k (h.rest.lt k hk) fun e => e.elim h1 h2)
  have hd1 : ¬ (d = G.loc i ∨ (G.row i).ownBlock = some d) := by
    rintro (e | e)
    · exact h.free (e ▸ h.rest.ol i hi)
    · exact h.free (h.rest.or i d hi e)
  have hsz := hs.size
  refine ⟨_, _, ⟨h1, h.top.same (hs.same d h.top.lt hd1), ?_⟩, hs.wider fun k _ hk => .inr ?_, ?_⟩
  · rintro (e | e)
    · exact h.free e
    · rcases hv d e with e | e
      · exact hd1 (.inr e)
      · have := h.top.lt; omega
  · rcases hk with rfl | hk
    · exact h.rest.ol i hi
    · exact h.rest.or i k hi hk
  · rintro k (hk | hk)
    · exact .inl hk
    · exact (hv k hk).imp (h.rest.or i k hi) id

theorem sync_do (w : World) (h : DkAt w d own G m) {i : Nat} (hi : i < m.made) : Calls Try.prog 55 #[.pointer (some ⟨G.loc i, 0, none⟩)] w fun e w' => e = .returned (.tuple #[]) ∧ DkTo w d own w' (m.doSync i) := by
  obtain ⟨A, c, hA, _⟩ := slice_of_owned (h.rest.rows i hi)
  have hc := h.rest.cells i hi
  rw [hA] at hc
  refine (keep_raw w hc).mono ?_
  rintro e w' ⟨rfl, hw⟩
  refine ⟨rfl, ?_⟩
  have hne : G.loc i ≠ d := fun e => h.free (e ▸ h.rest.ol i hi)
  have hb : (G.row i).ownBlock ≠ some (G.loc i) := fun e => by
    obtain ⟨cur, h1⟩ := row_block (h.rest.rows i hi) e
    unfold Whole at hc
    rw [hc] at h1
    injection h1 with h1
    injection h1 with _ h1 _
    cases h1
  have hs : Spares (fun k => k = G.loc i ∨ (G.row i).ownBlock = some k) w w' := hw ▸ (Spares.refl _ w).setCell (p := ⟨G.loc i, 2, none⟩) (.inl rfl) _
  have hr : w'.ownsRow 0 5 1 (G.row i) (m.files i).bytes.length ((m.files i).bytes.map byteV) := row_same (h.rest.rows i hi) fun k hk => by
    rw [hw]
    exact Below.heap_setCell _ _ _ _ fun e => hb (by have e : k = G.loc i := e; exact e ▸ hk)
  refine h.filed hi (f := ⟨(m.files i).bytes, (m.files i).bytes.length⟩) ?_ hr (fun k hk => .inl hk) hs
  rw [hw, hA]
  exact hc.put 2 _

set_option maxHeartbeats 4000000 in
set_option maxRecDepth 100000 in
theorem append_do (w : World) (h : DkAt w d own G m) {i : Nat} (hi : i < m.made) {a0 b0 d0 : Nat} {A : Option Addr} {nb cb : Nat} {bs : List UInt8}
    (ha : Whole w a0 91 #[ptrV (G.loc i)]) (hb : Whole w b0 23 #[.slice A nb cb]) (hd : Whole w d0 40 #[ptrV d])
    (ho : ∀ k, k = a0 ∨ k = b0 ∨ k = d0 → k ≠ d ∧ ¬ own k) (hs : Sl w A nb cb bs) (hoff : ∀ ad, A = some ad → bs ≠ [] → ad.block ≠ d ∧ ¬ own ad.block) (h1 : (m.files i).bytes.length ≤ 1000000000) (h2 : nb ≤ 1000000000) :
    Calls Try.prog 54 #[ptrV a0, ptrV b0, ptrV d0] w fun e w' => e = .returned (.tuple #[]) ∧ DkTo w d own w' (m.doAppend i bs) := by
  obtain ⟨A0, c0, hA0, _⟩ := slice_of_owned (h.rest.rows i hi)
  obtain ⟨i0, hi0, hz0, hz1, hz2⟩ := info_parts infoU8
  have HI := Lib.hid (And.intro hi0 (And.intro hz0 (And.intro hz1 hz2)))
  clear hi0 hz0 hz1 hz2
  have hc := h.rest.cells i hi
  have hrow := h.rest.rows i hi
  rw [hA0] at hc hrow
  obtain ⟨n0, hn0⟩ : ∃ n0, (m.files i).bytes.length = n0 := ⟨_, rfl⟩
  rw [hn0] at hc hrow h1 hA0
  have hown : ∀ k, (Value.slice A0 n0 c0).ownBlock = some k → own k := fun k hk => h.rest.or i k hi (hA0 ▸ hk)
  have hoc : ∀ k, k = a0 ∨ k = b0 ∨ k = d0 → (Value.slice A0 n0 c0).ownBlock ≠ some k := fun k hk e => (ho k hk).2 (hown k e)
  have hlc : (Value.slice A0 n0 c0).ownBlock ≠ some (G.loc i) := fun e => by
    obtain ⟨cur, h1⟩ := row_block hrow e
    unfold Whole at hc
    rw [hc] at h1
    injection h1 with h1
    injection h1 with _ h1 _
    cases h1
  have hdc : (Value.slice A0 n0 c0).ownBlock ≠ some d := fun e => h.free (hown d e)
  have hld : G.loc i ≠ d := fun e => h.free (e ▸ h.rest.ol i hi)
  -- what stays while only the row's own block turns
  have stay : ∀ w', Spares (fun k => (Value.slice A0 n0 c0).ownBlock = some k) w w' → Whole w' a0 91 #[ptrV (G.loc i)] ∧ Whole w' b0 23 #[.slice A nb cb] ∧ Whole w' d0 40 #[ptrV d] ∧ Whole w' (G.loc i) 98 #[.int .i64 (i : Int), .slice A0 n0 c0, .int .i64 ((m.files i).kept : Int)] ∧ Whole w' d 90 (dCells m G.nb G.kb G.pv) ∧ Sl w' A nb cb bs := fun w' hsp =>
    ⟨ha.same (hsp.same _ ha.lt (hoc _ (.inl rfl))), hb.same (hsp.same _ hb.lt (hoc _ (.inr (.inl rfl)))), hd.same (hsp.same _ hd.lt (hoc _ (.inr (.inr rfl)))), hc.same (hsp.same _ hc.lt hlc), h.top.same (hsp.same _ h.top.lt hdc),
      hs.off hsp.size fun ad e hne hlt => hsp.same _ hlt fun e2 => (hoff ad e hne).2 (hown _ e2)⟩
  have HST := Lib.hid stay
  have HROW := Lib.hid hrow
  have HDK := Lib.hid h
  have HQ := Lib.hid (And.intro hi (And.intro hown (And.intro hlc (And.intro hdc hld))))
  have HA0 := Lib.hid (And.intro hA0 hn0)
  have HS := Lib.hid hs
  have HO := Lib.hid (And.intro ho hoff)
  clear h hi ha hb hd ho hs hoff hA0 hc hrow hn0 hown hoc hlc hdc hld stay
  generalize hlf : G.loc i = lf at *
  have HLF := Lib.hid hlf
  clear hlf
  unfold ptrV
  go_enter Try.func54, Try.ntmps54
  go_wp2_with (fail)
  refine wp_region_jobs (G := Grows) (E := Spares (fun k => (Value.slice A0 n0 c0).ownBlock = some k)) 9 [valJob (fun k => (Value.slice A0 n0 c0).ownBlock = some k) (.pointer (some ⟨lf, 0, none⟩)), valJob (fun k => (Value.slice A0 n0 c0).ownBlock = some k) (.pointer (some ⟨lf, 0, none⟩)), valJob (fun k => (Value.slice A0 n0 c0).ownBlock = some k) (.pointer (some ⟨lf, 0, none⟩)), valJob (fun k => (Value.slice A0 n0 c0).ownBlock = some k) (.pointer (some ⟨lf, 1, none⟩)), valJob (fun k => (Value.slice A0 n0 c0).ownBlock = some k) (.slice A0 n0 c0), valJob (fun k => (Value.slice A0 n0 c0).ownBlock = some k) (.slice A nb cb), appJob (fun k => (Value.slice A0 n0 c0).ownBlock = some k) 0 5 (.slice A0 n0 c0) w.heap.size (n0 + nb) (((m.files i).bytes.map byteV) ++ bs.map byteV), valJob (fun k => (Value.slice A0 n0 c0).ownBlock = some k) (.pointer (some ⟨lf, 0, none⟩)), valJob (fun k => (Value.slice A0 n0 c0).ownBlock = some k) (.pointer (some ⟨lf, 1, none⟩))] [(false, false), (false, false), (false, false), (false, false), (false, false), (false, false), (true, true), (false, false), (false, false)] (fun w => w.ownsRow 0 5 1 (.slice A0 n0 c0) n0 ((m.files i).bytes.map byteV)) rfl mixed (by kernel_rfl) (fun _ _ => Spares.grows) (fun _ _ _ => Spares.trans) (spares_drew _ _) (row_same HROW.out fun _ _ => rfl) (fun _ _ h g => owned_grow h g) ?_
  simp only [List.take_succ_cons, List.take_zero, List.drop_succ_cons, List.drop_zero]
  refine j_val (.pointer (some ⟨lf, 0, none⟩)) (by rfl) ?_ ?_
  · intro w' hC; obtain ⟨p1, p2, p3, p4, p5, p6⟩ := HST.out w' hC; have q1 : w'.cell? ⟨a0, 0, none⟩ = some (.pointer (some ⟨lf, 0, none⟩)) := p1.cell 0; clear p1 p2 p3 p4 p5 p6; clear hC; go_simp
  simp only [Act.put, List.setIfInBounds_toArray, List.set_cons_zero, List.set_cons_succ]
  refine j_val (.pointer (some ⟨lf, 0, none⟩)) (by rfl) ?_ ?_
  · intro w' hC; obtain ⟨p1, p2, p3, p4, p5, p6⟩ := HST.out w' hC; have q1 : w'.cell? ⟨a0, 0, none⟩ = some (.pointer (some ⟨lf, 0, none⟩)) := p1.cell 0; clear p1 p2 p3 p4 p5 p6; clear hC; go_simp
  simp only [Act.put, List.setIfInBounds_toArray, List.set_cons_zero, List.set_cons_succ]
  refine j_val (.pointer (some ⟨lf, 0, none⟩)) (by rfl) ?_ ?_
  · intro w' hC; obtain ⟨p1, p2, p3, p4, p5, p6⟩ := HST.out w' hC; have q1 : w'.cell? ⟨lf, 1, none⟩ = some (.slice A0 n0 c0) := p4.cell 1; clear p1 p2 p3 p4 p5 p6; clear hC; go_simp
  simp only [Act.put, List.setIfInBounds_toArray, List.set_cons_zero, List.set_cons_succ]
  refine j_val (.pointer (some ⟨lf, 1, none⟩)) (by rfl) ?_ ?_
  · intro w' hC; obtain ⟨p1, p2, p3, p4, p5, p6⟩ := HST.out w' hC; have q1 : w'.cell? ⟨lf, 1, none⟩ = some (.slice A0 n0 c0) := p4.cell 1; clear p1 p2 p3 p4 p5 p6; clear hC; go_simp
  simp only [Act.put, List.setIfInBounds_toArray, List.set_cons_zero, List.set_cons_succ]
  refine j_val (.slice A0 n0 c0) (by rfl) ?_ ?_
  · intro w' hC; obtain ⟨p1, p2, p3, p4, p5, p6⟩ := HST.out w' hC; have q1 : w'.cell? ⟨lf, 1, none⟩ = some (.slice A0 n0 c0) := p4.cell 1; clear p1 p2 p3 p4 p5 p6; clear hC; go_simp
  simp only [Act.put, List.setIfInBounds_toArray, List.set_cons_zero, List.set_cons_succ]
  refine j_val (.slice A nb cb) (by rfl) ?_ ?_
  · intro w' hC; obtain ⟨p1, p2, p3, p4, p5, p6⟩ := HST.out w' hC; have q1 : w'.cell? ⟨b0, 0, none⟩ = some (.slice A nb cb) := p2.cell 0; clear p1 p2 p3 p4 p5 p6; clear hC; go_simp
  simp only [Act.put, List.setIfInBounds_toArray, List.set_cons_zero, List.set_cons_succ]
  refine j_append (by rfl) (.tmp 7) (.tmp 8) 23 rfl (B := w.heap.size) Try.underlying23 HI.out.1 HI.out.2.1 HI.out.2.2.1 HI.out.2.2.2 rfl rfl (.slice A0 n0 c0) (fun w' h => ⟨h, .inl rfl⟩) (Nat.le_refl _) (fun _ h => h) (fun _ _ _ h _ => h) rfl (fun w' hC _ => ⟨_, (HST.out w' hC).2.2.2.2.2.bytes⟩) HS.out.bare (byteV_one _) (n0 + nb) rfl (((m.files i).bytes.map byteV) ++ bs.map byteV) rfl (by unfold maxLen; omega) (by omega) (Nat.zero_le _) (fun _ _ _ _ h _ => h) ?_
  intro A2 cc2
  simp only [Act.put, List.setIfInBounds_toArray, List.set_cons_zero, List.set_cons_succ]
  refine j_val (.pointer (some ⟨lf, 0, none⟩)) (by rfl) ?_ ?_
  · intro w' hC; obtain ⟨p1, p2, p3, p4, p5, p6⟩ := HST.out w' hC; have q1 : w'.cell? ⟨lf, 1, none⟩ = some (.slice A0 n0 c0) := p4.cell 1; clear p1 p2 p3 p4 p5 p6; clear hC; go_simp
  simp only [Act.put, List.setIfInBounds_toArray, List.set_cons_zero, List.set_cons_succ]
  refine j_val (.pointer (some ⟨lf, 1, none⟩)) (by rfl) ?_ ?_
  · intro w' hC; obtain ⟨p1, p2, p3, p4, p5, p6⟩ := HST.out w' hC; have q1 : w'.cell? ⟨lf, 1, none⟩ = some (.slice A0 n0 c0) := p4.cell 1; clear p1 p2 p3 p4 p5 p6; clear hC; go_simp
  simp only [Act.put, List.setIfInBounds_toArray, List.set_cons_zero, List.set_cons_succ]
  refine wpJ_end ?_
  intro w2 hC hks hcls
  have HCw2 := Lib.hid hC
  have HLw2 := Lib.hid hcls
  clear hC hks hcls
  have HSTW := Lib.hid (HST.out w2 HCw2.out)
  obtain ⟨p1, p2, p3, p4, p5, p6⟩ := HSTW.out
  have c1 : w2.cell? ⟨lf, 1, none⟩ = some (.slice A0 n0 c0) := p4.cell 1
  have f1 := p4.free 1
  have HP := Lib.hid (And.intro p1 (And.intro p2 (And.intro p3 (And.intro p4 (And.intro p5 p6)))))
  clear p1 p2 p3 p4 p5 p6
  go_wp2_with (fail)
  obtain ⟨w3, hw3⟩ : ∃ w3, w2.setCell ⟨lf, 1, none⟩ (.slice A2 (n0 + nb) cc2) = w3 := ⟨_, rfl⟩
  rw [hw3]
  have key : DkTo w d own w3 (m.setFile i ⟨(m.files i).bytes ++ bs, (m.files i).kept⟩) ∧ Whole w3 b0 23 #[.slice A nb cb] ∧ Whole w3 d0 40 #[ptrV d] := by
    obtain ⟨p1, p2, p3, p4, p5, p6⟩ := HP.out
    obtain ⟨hi, hown, hlc, hdc, hld⟩ := HQ.out
    obtain ⟨hrow, hat⟩ := HLw2.out
    have hne : ∀ k, k = a0 ∨ k = b0 ∨ k = d0 → k ≠ lf := fun k hk e => (HO.out.1 k hk).2 (e ▸ (HLF.out ▸ HDK.out.rest.ol i hi : own lf))
    have hn2 : (Value.slice A2 (n0 + nb) cc2).ownBlock ≠ some lf := fun e => by
      obtain ⟨cur, h1⟩ := row_block hrow e
      unfold Whole at p4
      rw [p4] at h1
      injection h1 with h1
      injection h1 with _ h1 _
      cases h1
    have hlen : ((m.files i).bytes ++ bs).length = n0 + nb := by rw [List.length_append, HA0.out.2, HS.out.len]
    refine ⟨HDK.out.filed hi (f := ⟨(m.files i).bytes ++ bs, (m.files i).kept⟩) (v := .slice A2 (n0 + nb) cc2) ?_ ?_ ?_ ?_, ?_, ?_⟩
    · rw [HLF.out, ← hw3]
      exact p4.put 1 _
    · show w3.ownsRow 0 5 1 _ ((m.files i).bytes ++ bs).length _
      rw [hlen, List.map_append, ← hw3]
      exact row_same hrow fun k hk => Below.heap_setCell _ _ _ _ fun e => hn2 (by have e : k = lf := e; exact e ▸ hk)
    · intro k hk
      rw [HA0.out.1]
      rcases hat with e | ⟨g, e, hg⟩
      · exact .inl (e ▸ hk)
      · rw [e] at hk
        cases hk
        exact .inr hg
    · rw [HLF.out, HA0.out.1, ← hw3]
      exact (HCw2.out.wider fun k _ hk => .inr hk).setCell (p := ⟨lf, 1, none⟩) (.inl rfl) _
    · rw [← hw3]
      exact p2.elsewhere (fun e => hne b0 (.inr (.inl rfl)) e) _
    · rw [← hw3]
      exact p3.elsewhere (fun e => hne d0 (.inr (.inr rfl)) e) _
  clear hw3
  obtain ⟨⟨own3, G3, h3, s3, o3⟩, kb, kd⟩ := key
  have H3 := Lib.hid h3
  have S3 := Lib.hid s3
  have O3 := Lib.hid o3
  have HCL := Lib.hid (show ∀ w', Grows w3 w' → w'.cell? ⟨d0, 0, none⟩ = some (.pointer (some ⟨d, 0, none⟩)) ∧ w'.cell? ⟨b0, 0, none⟩ = some (.slice A nb cb) ∧ w'.cell? ⟨d, 2, none⟩ = some (.int .i64 m.used) from fun w' hg => ⟨hg.cellq kd, hg.cellq kb, hg.cellq h3.top⟩)
  have HLEN := Lib.hid HS.out.len
  clear h3 s3 o3 kb kd HP HSTW HROW HST HLw2 HCw2 c1 f1
  generalize hus : m.used = us at *
  have HUS := Lib.hid hus
  clear hus
  refine wp_region_facts_tail (E := Grows) 9 [valFact (.pointer (some ⟨d, 0, none⟩)), valFact (.pointer (some ⟨d, 0, none⟩)), valFact (.pointer (some ⟨d, 2, none⟩)), valFact (.int .i64 us), valFact (.slice A nb cb), valFact (.int .i64 (nb : Int)), valFact (.int .i64 (wrap64 (us + nb))), valFact (.pointer (some ⟨d, 0, none⟩)), valFact (.pointer (some ⟨d, 2, none⟩))] mixed (by kernel_rfl) (fun _ _ _ => Grows.trans) (grows_drew _) ?_
  simp only [List.take_succ_cons, List.take_zero, List.drop_succ_cons, List.drop_zero]
  refine f_val (.pointer (some ⟨d, 0, none⟩)) (by rfl) ?_ ?_
  · intro w' hC; obtain ⟨q1, q2, q3⟩ := HCL.out w' hC; clear hC; go_simp
  simp only [Act.put, List.setIfInBounds_toArray, List.set_cons_zero, List.set_cons_succ]
  refine f_val (.pointer (some ⟨d, 0, none⟩)) (by rfl) ?_ ?_
  · intro w' hC; obtain ⟨q1, q2, q3⟩ := HCL.out w' hC; clear hC; go_simp
  simp only [Act.put, List.setIfInBounds_toArray, List.set_cons_zero, List.set_cons_succ]
  refine f_val (.pointer (some ⟨d, 2, none⟩)) (by rfl) ?_ ?_
  · intro w' hC; obtain ⟨q1, q2, q3⟩ := HCL.out w' hC; clear hC; go_simp
  simp only [Act.put, List.setIfInBounds_toArray, List.set_cons_zero, List.set_cons_succ]
  refine f_val (.int .i64 us) (by rfl) ?_ ?_
  · intro w' hC; obtain ⟨q1, q2, q3⟩ := HCL.out w' hC; clear hC; go_simp
  simp only [Act.put, List.setIfInBounds_toArray, List.set_cons_zero, List.set_cons_succ]
  refine f_val (.slice A nb cb) (by rfl) ?_ ?_
  · intro w' hC; obtain ⟨q1, q2, q3⟩ := HCL.out w' hC; clear hC; go_simp
  simp only [Act.put, List.setIfInBounds_toArray, List.set_cons_zero, List.set_cons_succ]
  refine f_val (.int .i64 (nb : Int)) (by rfl) ?_ ?_
  · intro w' hC; clear hC; go_simp
  simp only [Act.put, List.setIfInBounds_toArray, List.set_cons_zero, List.set_cons_succ]
  refine f_val (.int .i64 (wrap64 (us + nb))) (by rfl) ?_ ?_
  · intro w' hC; clear hC; (go_simp; unfold wrap64; rw [IntKind.wrap_i64])
  simp only [Act.put, List.setIfInBounds_toArray, List.set_cons_zero, List.set_cons_succ]
  refine f_val (.pointer (some ⟨d, 0, none⟩)) (by rfl) ?_ ?_
  · intro w' hC; obtain ⟨q1, q2, q3⟩ := HCL.out w' hC; clear hC; go_simp
  simp only [Act.put, List.setIfInBounds_toArray, List.set_cons_zero, List.set_cons_succ]
  refine f_val (.pointer (some ⟨d, 2, none⟩)) (by rfl) ?_ ?_
  · intro w' hC; obtain ⟨q1, q2, q3⟩ := HCL.out w' hC; clear hC; go_simp
  simp only [Act.put, List.setIfInBounds_toArray, List.set_cons_zero, List.set_cons_succ]
  refine wpF_end ?_
  intro w4 hC hks
  have HCw4 := Lib.hid hC
  clear hC hks
  have c2 := (HCL.out w4 HCw4.out).2.2
  have f2 := (H3.out.grow HCw4.out).top.free 2
  go_wp2_with (fail)
  go_end0
  obtain rfl := HUS.out
  refine ⟨rfl, own3, G3, ?_, ?_, O3.out⟩
  · have h4 : DkAt (w4.setCell ⟨d, 2, none⟩ (.int .i64 (wrap64 (m.used + nb)))) d own3 G3 { m.setFile i ⟨(m.files i).bytes ++ bs, (m.files i).kept⟩ with used := wrap64 (m.used + nb) } := (H3.out.grow HCw4.out).set 2 _ rfl rfl rfl rfl rfl rfl
    have e : m.doAppend i bs = { m.setFile i ⟨(m.files i).bytes ++ bs, (m.files i).kept⟩ with used := wrap64 (m.used + nb) } := by
      unfold Dk.doAppend
      rw [HLEN.out]
    rw [e]
    exact h4
  · exact (S3.out.trans (Spares.grows HCw4.out)).setCell (p := ⟨d, 2, none⟩) (.inl rfl) _
end
end Go.Proofs.Ytmfhpfehphbklaa

