/-
  Swap of book's heap.
-/
import Derived.Test.YtlldcogkcjnejaaBkLess
import Derived.Test.YtlldcogkcjnejaaJobSteps
namespace Go.Proofs.Ytlldcogkcjnejaa
open Go.RowKit Go.Shelf Go.Maps Go.Sort
set_option linter.unusedVariables false
set_option linter.unusedSimpArgs false
attribute [local irreducible] wpF

theorem flat_len3 (l : List Us) : (l.flatMap usE).length = l.length * 3 := flat_length usL l
theorem flat_set3 (x : Us) : ∀ (l : List Us) (i : Nat), (l.set i x).flatMap usE = ((((l.flatMap usE).set (i * 3) (.int .i64 x.seg)).set (i * 3 + 1) (.int .i64 x.all)).set (i * 3 + 2) (.int .i64 x.live))
  | [], i => by simp
  | y :: r, 0 => by simp [usE]
  | y :: r, i + 1 => by
    rw [List.set_cons_succ, List.flatMap_cons, flat_set3 x r i, List.flatMap_cons]
    have h : ∀ (q : List Value) (t : Nat) (v : Value), (usE y ++ q).set (t + 3) v = usE y ++ q.set t v := fun q t v => by
      show (_ :: _ :: _ :: q).set (t + 3) v = _
      simp [usE, List.set_cons_succ]
    rw [show (i + 1) * 3 = i * 3 + 3 by omega, show i * 3 + 3 + 1 = (i * 3 + 1) + 3 by omega, show i * 3 + 3 + 2 = (i * 3 + 2) + 3 by omega, h, h, h]
/-- A use stored into a row of one's own. -/
def put3 (w : World) (g t : Nat) (x : Us) : World := ((w.setCell ⟨g, t, none⟩ (.int .i64 x.seg)).setCell ⟨g, t + 1, none⟩ (.int .i64 x.all)).setCell ⟨g, t + 2, none⟩ (.int .i64 x.live)
theorem put3_own {w : World} {base g n c i : Nat} {l : List Us} (h : w.ownsRow base 34 3 (.slice (some ⟨g, 0, none⟩) n c) n (l.flatMap usE)) (x : Us) :
    (put3 w g (i * 3) x).ownsRow base 34 3 (.slice (some ⟨g, 0, none⟩) n c) n ((l.set i x).flatMap usE) := by
  rw [flat_set3]
  exact (World.ownsRow.stored (World.ownsRow.stored (World.ownsRow.stored h _ _).1 _ _).1 _ _).1
theorem put3_spares (w : World) (g t : Nat) (x : Us) : Spares (fun k => k = g) w (put3 w g t x) :=
  Spares.setCell (own := fun k => k = g) (p := ⟨g, t + 2, none⟩) (Spares.setCell (own := fun k => k = g) (p := ⟨g, t + 1, none⟩) (Spares.setCell (own := fun k => k = g) (p := ⟨g, t, none⟩) (Spares.refl _ _) rfl _) rfl _) rfl _
theorem store3 {w : World} {g t : Nat} (x : Us) {u0 u1 u2 : Value} (h0 : w.cell? ⟨g, t, none⟩ = some u0) (h1 : w.cell? ⟨g, t + 1, none⟩ = some u1) (h2 : w.cell? ⟨g, t + 2, none⟩ = some u2) (hf : ∀ s, w.frozen? ⟨g, s, none⟩ = false) :
    (Instr.storeAt 34 (.pointer (some ⟨g, t, none⟩)) (usV x)).run Try.prog w = .ok () (put3 w g t x) := by
  have f0 := hf t
  have f1 := hf (t + 1)
  have f2 := hf (t + 2)
  obtain ⟨x0, x1, x2⟩ := x
  unfold usV put3
  dsimp only
  clear hf
  go_simp
section
variable {own : Nat → Prop} {P : Program} {ops : Array Oper} {W : World} {Q : Act → World → Prop} {o : Oper} {rest : List Oper} {js : List (Job Grows (Spares own))} {ks : Known} {C : World → Prop} {a : Act}
/-- A store. -/
theorem j_store {C' : World → Prop} {hC' : ∀ w w', C' w → Grows w w' → C' w'} (hw : Region.wanted o (yielded ops a.tmps) = true)
    (h1 : ∀ w, Spares own W w → C w → ∃ w', (execOp a.eval o).run P w = .ok .skip w' ∧ Spares own w w' ∧ C' w') (h2 : wpJ P ops W Q rest js ks C' (a.put o.dst undef)) :
    wpJ P ops W Q (o :: rest) (wrJob own undef C' hC' :: js) ks C a := by
  unfold wpJ jStep
  rw [if_pos hw]
  refine ⟨fun w hW _ hC => ?_, fun x => wpJ_more _ _ ks _ _ _ (fun k hk => List.mem_cons_of_mem _ hk) h2⟩
  obtain ⟨w', hr, hs, hc⟩ := h1 w hW (hC rfl)
  rw [hr]
  exact ⟨(), rfl, trivial, fun _ => ⟨hs, hc⟩, fun h => by cases h⟩
end
theorem run_store3 {w : World} {a : Act} {o : Oper} {p v : Operand} {g t : Nat} (x : Us) (ho : o.op = .store 34 p v) (hp : a.eval p = .pointer (some ⟨g, t, none⟩)) (hv : a.eval v = usV x) {u0 u1 u2 : Value} (h0 : w.cell? ⟨g, t, none⟩ = some u0) (h1 : w.cell? ⟨g, t + 1, none⟩ = some u1) (h2 : w.cell? ⟨g, t + 2, none⟩ = some u2) (hf : ∀ s, w.frozen? ⟨g, s, none⟩ = false) :
    (execOp a.eval o).run Try.prog w = .ok .skip (put3 w g t x) := by
  unfold execOp
  simp only [ho, hp, hv, Sem.run_bind, Sem.run_pure, store3 x h0 h1 h2 hf, Result.andThen_ok]
/-- What a row's cells are, in every world that has it. -/
theorem cells3 {w : World} {base g n c i : Nat} {l : List Us} (h : w.ownsRow base 34 3 (.slice (some ⟨g, 0, none⟩) n c) n (l.flatMap usE)) {x : Us} (hx : l[i]? = some x) :
    w.cell? ⟨g, i * 3, none⟩ = some (.int .i64 x.seg) ∧ w.cell? ⟨g, i * 3 + 1, none⟩ = some (.int .i64 x.all) ∧ w.cell? ⟨g, i * 3 + 2, none⟩ = some (.int .i64 x.live) := by
  have hlen : l.length = n := by have := h.1; rw [flat_len3] at this; omega
  have hi : i < n := by rw [← hlen]; exact (List.getElem?_eq_some_iff.1 hx).1
  have key : ∀ j, j < 3 → w.cell? ⟨g, i * 3 + j, none⟩ = (usE x)[j]? := fun j hj => by
    rw [h.cellAt _ (by omega)]
    exact flat_get usL l i j x hx hj
  exact ⟨key 0 (by omega), key 1 (by omega), key 2 (by omega)⟩
set_option maxRecDepth 100000 in
set_option maxHeartbeats 4000000 in
theorem swap_any (base g n c : Nat) (l : List Us) (w : World) (h : w.ownsRow base 34 3 (.slice (some ⟨g, 0, none⟩) n c) n (l.flatMap usE)) (i j : Nat) (hi : i < n) (hj : j < n) (hn : n ≤ 1000000) :
    Calls Try.prog 82 #[.slice (some ⟨g, 0, none⟩) n c, .int .i64 (i : Int), .int .i64 (j : Int)] w fun e w' => e = .returned (.tuple #[]) ∧ w'.ownsRow base 34 3 (.slice (some ⟨g, 0, none⟩) n c) n ((swp l i j).flatMap usE) ∧ Spares (fun k => k = g) w w' := by
  have hlen : l.length = n := by have := h.1; rw [flat_len3] at this; omega
  obtain ⟨x, hx⟩ : ∃ x, l[i]? = some x := ⟨_, List.getElem?_eq_getElem (by omega)⟩
  obtain ⟨y, hy⟩ : ∃ x, l[j]? = some x := ⟨_, List.getElem?_eq_getElem (by omega)⟩
  have ex : l[i]! = x := by rw [getElem!_def, hx]
  have ey : l[j]! = y := by rw [getElem!_def, hy]
  have HS := Lib.hid (show swp l i j = (l.set i y).set j x by unfold swp; rw [ex, ey])
  have HX := Lib.hid (fun w (hw : World.ownsRow w base 34 3 (.slice (some ⟨g, 0, none⟩) n c) n (l.flatMap usE)) => cells3 hw hx)
  have HY := Lib.hid (fun w (hw : World.ownsRow w base 34 3 (.slice (some ⟨g, 0, none⟩) n c) n (l.flatMap usE)) => cells3 hw hy)
  have hl2 : ((l.set i y)[j]?).isSome = true := by rw [List.getElem?_eq_getElem (by rw [List.length_set]; omega)]; rfl
  obtain ⟨z, hz⟩ := Option.isSome_iff_exists.1 hl2
  have HZ := Lib.hid (fun w (hw : World.ownsRow w base 34 3 (.slice (some ⟨g, 0, none⟩) n c) n ((l.set i y).flatMap usE)) => cells3 hw hz)
  have k0 : (0 : Int) ≤ (i : Int) := by omega
  have k1 : (i : Int) < (n : Int) := by omega
  have k2 : (0 : Int) ≤ (j : Int) := by omega
  have k3 : (j : Int) < (n : Int) := by omega
  have HI := Lib.hid (And.intro k0 (And.intro k1 (And.intro k2 k3)))
  have HO := Lib.hid h
  obtain ⟨x0, x1, x2⟩ := x
  obtain ⟨y0, y1, y2⟩ := y
  dsimp only at HX HY
  clear h ex ey hx hy hz hl2 hlen
  go_enter Try.func82, Try.ntmps82
  refine wp_region_jobs (G := Grows) (E := Spares (fun k => k = g)) 14 [valJob (fun k => k = g) (.slice (some ⟨g, 0, none⟩) n c), valJob (fun k => k = g) (.int .i64 (i : Int)), valJob (fun k => k = g) (.slice (some ⟨g, 0, none⟩) n c), valJob (fun k => k = g) (.int .i64 (j : Int)), valJob (fun k => k = g) (.slice (some ⟨g, 0, none⟩) n c), valJob (fun k => k = g) (.int .i64 (j : Int)), valJob (fun k => k = g) (.pointer (some ⟨g, j * 3, none⟩)), rdJob (fun k => k = g) (.agg #[.int .i64 y0, .int .i64 y1, .int .i64 y2]), valJob (fun k => k = g) (.slice (some ⟨g, 0, none⟩) n c), valJob (fun k => k = g) (.int .i64 (i : Int)), valJob (fun k => k = g) (.pointer (some ⟨g, i * 3, none⟩)), rdJob (fun k => k = g) (.agg #[.int .i64 x0, .int .i64 x1, .int .i64 x2]), valJob (fun k => k = g) (.pointer (some ⟨g, i * 3, none⟩)), wrJob (fun k => k = g) undef (fun w' => w'.ownsRow base 34 3 (.slice (some ⟨g, 0, none⟩) n c) n ((l.set i ⟨y0, y1, y2⟩).flatMap usE)) (fun _ _ h hg => owned_grow h hg)] [(false, false), (false, false), (false, false), (false, false), (false, false), (false, false), (false, false), (true, false), (false, false), (false, false), (false, false), (true, false), (false, false), (true, true)] (fun w' => w'.ownsRow base 34 3 (.slice (some ⟨g, 0, none⟩) n c) n ((l).flatMap usE)) rfl mixed (by kernel_rfl) (fun _ _ => Spares.grows) (fun _ _ _ => Spares.trans) (spares_drew _ _) (owned_grow HO.out (grows_drew w)) (fun _ _ h hg => owned_grow h hg) ?_
  simp only [List.take_succ_cons, List.take_zero, List.drop_succ_cons, List.drop_zero]
  refine j_val (.slice (some ⟨g, 0, none⟩) n c) (by rfl) ?_ ?_
  · intro w' hC; clear hC; go_simp
  simp only [Act.put, List.setIfInBounds_toArray, List.set_cons_zero, List.set_cons_succ]
  refine j_val (.int .i64 (i : Int)) (by rfl) ?_ ?_
  · intro w' hC; clear hC; go_simp
  simp only [Act.put, List.setIfInBounds_toArray, List.set_cons_zero, List.set_cons_succ]
  refine j_val (.slice (some ⟨g, 0, none⟩) n c) (by rfl) ?_ ?_
  · intro w' hC; clear hC; go_simp
  simp only [Act.put, List.setIfInBounds_toArray, List.set_cons_zero, List.set_cons_succ]
  refine j_val (.int .i64 (j : Int)) (by rfl) ?_ ?_
  · intro w' hC; clear hC; go_simp
  simp only [Act.put, List.setIfInBounds_toArray, List.set_cons_zero, List.set_cons_succ]
  refine j_val (.slice (some ⟨g, 0, none⟩) n c) (by rfl) ?_ ?_
  · intro w' hC; clear hC; go_simp
  simp only [Act.put, List.setIfInBounds_toArray, List.set_cons_zero, List.set_cons_succ]
  refine j_val (.int .i64 (j : Int)) (by rfl) ?_ ?_
  · intro w' hC; clear hC; go_simp
  simp only [Act.put, List.setIfInBounds_toArray, List.set_cons_zero, List.set_cons_succ]
  refine j_val (.pointer (some ⟨g, j * 3, none⟩)) (by rfl) ?_ ?_
  · intro w' hC; have k0 := HI.out; clear hC; go_simp
  simp only [Act.put, List.setIfInBounds_toArray, List.set_cons_zero, List.set_cons_succ]
  refine j_read (.agg #[.int .i64 y0, .int .i64 y1, .int .i64 y2]) (by rfl) ?_ ?_
  · intro w' hC hcls; have q := HY.out w' hcls; have q0 := q.1; have q1 := q.2.1; have q2 := q.2.2; clear hC hcls; go_simp
  simp only [Act.put, List.setIfInBounds_toArray, List.set_cons_zero, List.set_cons_succ]
  refine j_val (.slice (some ⟨g, 0, none⟩) n c) (by rfl) ?_ ?_
  · intro w' hC; clear hC; go_simp
  simp only [Act.put, List.setIfInBounds_toArray, List.set_cons_zero, List.set_cons_succ]
  refine j_val (.int .i64 (i : Int)) (by rfl) ?_ ?_
  · intro w' hC; clear hC; go_simp
  simp only [Act.put, List.setIfInBounds_toArray, List.set_cons_zero, List.set_cons_succ]
  refine j_val (.pointer (some ⟨g, i * 3, none⟩)) (by rfl) ?_ ?_
  · intro w' hC; have k0 := HI.out; clear hC; go_simp
  simp only [Act.put, List.setIfInBounds_toArray, List.set_cons_zero, List.set_cons_succ]
  refine j_read (.agg #[.int .i64 x0, .int .i64 x1, .int .i64 x2]) (by rfl) ?_ ?_
  · intro w' hC hcls; have q := HX.out w' hcls; have q0 := q.1; have q1 := q.2.1; have q2 := q.2.2; clear hC hcls; go_simp
  simp only [Act.put, List.setIfInBounds_toArray, List.set_cons_zero, List.set_cons_succ]
  refine j_val (.pointer (some ⟨g, i * 3, none⟩)) (by rfl) ?_ ?_
  · intro w' hC; have k0 := HI.out; clear hC; go_simp
  simp only [Act.put, List.setIfInBounds_toArray, List.set_cons_zero, List.set_cons_succ]
  refine j_store (by rfl) (fun w' hC hcls => ⟨put3 w' g (i * 3) ⟨y0, y1, y2⟩, ?_, put3_spares _ _ _ _, put3_own hcls _⟩) ?_
  · have q := HX.out w' hcls; exact run_store3 ⟨y0, y1, y2⟩ rfl rfl rfl q.1 q.2.1 q.2.2 (fun s => hcls.frozenAt s)
  simp only [Act.put, List.setIfInBounds_toArray, List.set_cons_zero, List.set_cons_succ]
  refine wpJ_end ?_
  intro w1 hC hks hcls
  have HCw1 := Lib.hid hC
  have HLw1 := Lib.hid hcls
  clear hC hks hcls
  have q := HZ.out w1 HLw1.out
  have f0 := HLw1.out.frozenAt (j * 3)
  have f1 := HLw1.out.frozenAt (j * 3 + 1)
  have f2 := HLw1.out.frozenAt (j * 3 + 2)
  obtain ⟨q0, q1, q2⟩ := q
  go_wp2_with (fail)
  go_end0
  refine ⟨rfl, ?_, HCw1.out.trans (put3_spares w1 g (j * 3) ⟨x0, x1, x2⟩)⟩
  rw [HS.out]
  exact put3_own HLw1.out ⟨x0, x1, x2⟩
end Go.Proofs.Ytlldcogkcjnejaa
