/-
  The steps of a walk with jobs: values that are known ahead, calls whose answers are known, literal slices that are made, what is not wanted; an append to a row of the call's own.
-/
import Derived.Test.YtnnkioekjobbmaaJobs
import Derived.Test.YtnnkioekjobbmaaRange
namespace Go.Proofs.Ytnnkioekjobbmaa
open Go.RowKit
set_option linter.unusedVariables false

section
variable {own : Nat → Prop}
def valJob (own : Nat → Prop) (v : Value) : Job Grows (Spares own) := ⟨Unit, (), fun _ => v, fun _ _ => True, fun _ _ _ _ _ => trivial, false, false, fun _ _ => True, fun _ _ _ _ _ => trivial⟩
/-- A value that hangs on what jobs write. -/
def rdJob (own : Nat → Prop) (v : Value) : Job Grows (Spares own) := ⟨Unit, (), fun _ => v, fun _ _ => True, fun _ _ _ _ _ => trivial, true, false, fun _ _ => True, fun _ _ _ _ _ => trivial⟩
/-- A call that writes: its answer is known, and so is what it leaves. -/
def wrJob (own : Nat → Prop) (v : Value) (C : World → Prop) (hC : ∀ w w', C w → Grows w w' → C w') : Job Grows (Spares own) := ⟨Unit, (), fun _ => v, fun _ _ => True, fun _ _ _ _ _ => trivial, true, true, fun _ => C, fun _ => hC⟩
/-- An operation that writes. -/
def clsJob (own : Nat → Prop) (α : Type) (x0 : α) (val : α → Value) (C : α → World → Prop) (hC : ∀ x w w', C x w → Grows w w' → C x w') : Job Grows (Spares own) := ⟨α, x0, val, fun _ _ => True, fun _ _ _ _ _ => trivial, true, true, C, hC⟩
/-- A literal slice of n cells in a block of its own, which no job writes. -/
def blkJob (own : Nat → Prop) (t : TypeId) (cs : Array Value) (n : Nat) : Job Grows (Spares own) :=
  ⟨Nat, 0, fun g => .slice (some ⟨g, 0, none⟩) n n, fun g w => Whole w g t cs ∧ ¬ own g, fun _ _ _ h g => ⟨(g.same _ h.1.lt h.2).trans h.1, h.2⟩, false, false, fun _ _ => True, fun _ _ _ _ _ => trivial⟩
/-- A row of one-celled values of the call's own to which is appended: what the row is then, and where. -/
def appJob (own : Nat → Prop) (base : Nat) (e : TypeId) (v0 : Value) (B k : Nat) (xs : List Value) : Job Grows (Spares own) :=
  ⟨Option Addr × Nat, (none, 0), fun p => .slice p.1 k p.2, fun _ _ => True, fun _ _ _ _ _ => trivial, true, true,
    fun p w => w.ownsRow base e 1 (.slice p.1 k p.2) k xs ∧ ((Value.slice p.1 k p.2).ownBlock = v0.ownBlock ∨ ∃ g, (Value.slice p.1 k p.2).ownBlock = some g ∧ B ≤ g), fun _ _ _ h g => ⟨owned_grow h.1 g, h.2⟩⟩

variable {P : Program} {ops : Array Oper} {W : World} {Q : Act → World → Prop} {o : Oper} {rest : List Oper} {js : List (Job Grows (Spares own))} {ks : Known} {C : World → Prop} {a : Act}

theorem wpJ_more {G E : World → World → Prop} : ∀ (l : List Oper) (js : List (Job G E)) (ks ks' : Known) (C : World → Prop) (a : Act), (∀ k ∈ ks, k ∈ ks') → wpJ P ops W Q l js ks C a → wpJ P ops W Q l js ks' C a
  | [], _, _, _, _, _, hk, h => fun w hw ha => h w hw fun k hk' => ha k (hk k hk')
  | _ :: _, [], _, _, _, _, _, h => h.elim
  | o :: l, J :: js, ks, ks', C, a, hk, h => by
    unfold wpJ jStep at *
    split
    · rename_i hw
      simp only [hw, if_true] at h
      refine ⟨fun w hw' hf => h.1 w hw' fun k hk' => hf k (hk k hk'), fun x => wpJ_more l js _ _ _ _ (fun k hk' => ?_) (h.2 x)⟩
      rcases List.mem_cons.1 hk' with rfl | hk'
      · exact List.mem_cons_self
      · exact List.mem_cons_of_mem _ (hk k hk')
    · rename_i hw
      simp only [hw] at h
      exact wpJ_more l js _ _ _ _ hk h

theorem j_known (v : Value) (hw : Region.wanted o (yielded ops a.tmps) = true) (h1 : ∀ w, Spares own W w → ks.for (o.looksAt ops) w → (execOp a.eval o).run P w = .ok (.value v) w) (h2 : wpJ P ops W Q rest js ks C (a.put o.dst v)) :
    wpJ P ops W Q (o :: rest) (valJob own v :: js) ks C a := by
  unfold wpJ jStep
  rw [if_pos hw]
  refine ⟨fun w hW hk _ => ?_, fun x => wpJ_more _ _ ks _ _ _ (fun k hk => List.mem_cons_of_mem _ hk) h2⟩
  rw [h1 w hW hk]
  exact ⟨(), rfl, trivial, (fun h => by cases h), fun _ => Grows.refl w⟩
theorem j_val (v : Value) (hw : Region.wanted o (yielded ops a.tmps) = true) (h1 : ∀ w, Spares own W w → (execOp a.eval o).run P w = .ok (.value v) w) (h2 : wpJ P ops W Q rest js ks C (a.put o.dst v)) :
    wpJ P ops W Q (o :: rest) (valJob own v :: js) ks C a := j_known v hw (fun w hW _ => h1 w hW) h2
theorem j_call (f : FuncId) (args : Array Value) (v : Value) (hw : Region.wanted o (yielded ops a.tmps) = true) (h1 : ∀ w, Spares own W w → (execOp a.eval o).run P w = .ok (.enter f args) w)
    (hc : ∀ w, Spares own W w → ks.for (o.looksAt ops) w → Calls P f args w fun e w' => e = .returned v ∧ Grows w w') (h2 : wpJ P ops W Q rest js ks C (a.put o.dst v)) :
    wpJ P ops W Q (o :: rest) (valJob own v :: js) ks C a := by
  unfold wpJ jStep
  rw [if_pos hw]
  refine ⟨fun w hW hk _ => ?_, fun x => wpJ_more _ _ ks _ _ _ (fun k hk => List.mem_cons_of_mem _ hk) h2⟩
  rw [h1 w hW]
  exact (hc w hW hk).mono fun e w' ⟨he, hg⟩ => ⟨(), he, trivial, (fun h => by cases h), fun _ => hg⟩
theorem j_read (v : Value) (hw : Region.wanted o (yielded ops a.tmps) = true) (h1 : ∀ w, Spares own W w → C w → (execOp a.eval o).run P w = .ok (.value v) w) (h2 : wpJ P ops W Q rest js ks C (a.put o.dst v)) :
    wpJ P ops W Q (o :: rest) (rdJob own v :: js) ks C a := by
  unfold wpJ jStep
  rw [if_pos hw]
  refine ⟨fun w hW _ hC => ?_, fun x => wpJ_more _ _ ks _ _ _ (fun k hk => List.mem_cons_of_mem _ hk) h2⟩
  rw [h1 w hW (hC rfl)]
  exact ⟨(), rfl, trivial, (fun h => by cases h), fun _ => Grows.refl w⟩
theorem j_write (f : FuncId) (args : Array Value) (v : Value) {C' : World → Prop} {hC' : ∀ w w', C' w → Grows w w' → C' w'} (hw : Region.wanted o (yielded ops a.tmps) = true) (h1 : ∀ w, Spares own W w → (execOp a.eval o).run P w = .ok (.enter f args) w)
    (hc : ∀ w, Spares own W w → C w → Calls P f args w fun e w' => e = .returned v ∧ Spares own w w' ∧ C' w') (h2 : wpJ P ops W Q rest js ks C' (a.put o.dst v)) :
    wpJ P ops W Q (o :: rest) (wrJob own v C' hC' :: js) ks C a := by
  unfold wpJ jStep
  rw [if_pos hw]
  refine ⟨fun w hW _ hC => ?_, fun x => wpJ_more _ _ ks _ _ _ (fun k hk => List.mem_cons_of_mem _ hk) h2⟩
  rw [h1 w hW]
  exact (hc w hW (hC rfl)).mono fun e w' ⟨he, hs, hc'⟩ => ⟨(), he, trivial, fun _ => ⟨hs, hc'⟩, fun h => by cases h⟩
theorem j_made (t : TypeId) (cs : Array Value) (n : Nat) (hown : ∀ k, own k → k < W.heap.size) (hw : Region.wanted o (yielded ops a.tmps) = true) (h1 : ∀ w, Spares own W w → (execOp a.eval o).run P w = .ok (.value (.slice (some ⟨w.heap.size, 0, none⟩) n n)) (w.alloc (.cells cs t)))
    (h2 : ∀ g, wpJ P ops W Q rest js ((o.dst, fun w => Whole w g t cs ∧ ¬ own g) :: ks) C (a.put o.dst (.slice (some ⟨g, 0, none⟩) n n))) :
    wpJ P ops W Q (o :: rest) (blkJob own t cs n :: js) ks C a := by
  unfold wpJ jStep
  rw [if_pos hw]
  refine ⟨fun w hW hk _ => ?_, fun g => h2 g⟩
  rw [h1 w hW]
  exact ⟨w.heap.size, rfl, ⟨Whole.made _ _ _, fun h => by have := hown _ h; have := hW.size; omega⟩, (fun h => by cases h), fun _ => grows_alloc _ _⟩
theorem j_skip {J : Job Grows (Spares own)} (hw : Region.wanted o (yielded ops a.tmps) = false) (h2 : wpJ P ops W Q rest js ks C (a.put o.dst undef)) : wpJ P ops W Q (o :: rest) (J :: js) ks C a := by
  unfold wpJ jStep
  rw [if_neg (by simp [hw])]
  exact h2
/-- A call that reads what jobs write; its answer is known. -/
theorem j_rcall (f : FuncId) (args : Array Value) (v : Value) (hw : Region.wanted o (yielded ops a.tmps) = true) (h1 : ∀ w, Spares own W w → (execOp a.eval o).run P w = .ok (.enter f args) w)
    (hc : ∀ w, Spares own W w → C w → Calls P f args w fun e w' => e = .returned v ∧ Grows w w') (h2 : wpJ P ops W Q rest js ks C (a.put o.dst v)) :
    wpJ P ops W Q (o :: rest) (rdJob own v :: js) ks C a := by
  unfold wpJ jStep
  rw [if_pos hw]
  refine ⟨fun w hW _ hC => ?_, fun x => wpJ_more _ _ ks _ _ _ (fun k hk => List.mem_cons_of_mem _ hk) h2⟩
  rw [h1 w hW]
  exact (hc w hW (hC rfl)).mono fun e w' ⟨he, hg⟩ => ⟨(), he, trivial, (fun h => by cases h), fun _ => hg⟩
/-- An operation that writes: what it leaves is told of some x. -/
theorem j_cls {α : Type} {x0 : α} {val : α → Value} {C' : α → World → Prop} {hC' : ∀ x w w', C' x w → Grows w w' → C' x w'} (hw : Region.wanted o (yielded ops a.tmps) = true)
    (h1 : ∀ w, Spares own W w → C w → ∃ x w', (execOp a.eval o).run P w = .ok (.value (val x)) w' ∧ Spares own w w' ∧ C' x w') (h2 : ∀ x, wpJ P ops W Q rest js ks (C' x) (a.put o.dst (val x))) :
    wpJ P ops W Q (o :: rest) (clsJob own α x0 val C' hC' :: js) ks C a := by
  unfold wpJ jStep
  rw [if_pos hw]
  refine ⟨fun w hW _ hC => ?_, fun x => wpJ_more _ _ ks _ _ _ (fun k hk => List.mem_cons_of_mem _ hk) (h2 x)⟩
  obtain ⟨x, w', hr, hs, hc⟩ := h1 w hW (hC rfl)
  rw [hr]
  exact ⟨x, rfl, trivial, fun _ => ⟨hs, hc⟩, fun h => by cases h⟩
theorem wpJ_end (h : ∀ w, Spares own W w → ks.all w → C w → Q a w) : wpJ (G := Grows) (E := Spares own) P ops W Q [] js ks C a := h

/-- 'append(s, x...)', s the call's own: its class is that row. -/
theorem j_append (hw : Region.wanted o (yielded ops a.tmps) = true) (s x : Operand) (t : TypeId) (ho : o.op = .call { callee := .builtin .append, args := #[s, x], argTypes := #[t, t] })
    {base B : Nat} {e : TypeId} {i : TypeInfo} {z : Value} {bytes : Nat} (ht : P.underlying t = some (.slice e)) (hi : P.info? e = some i) (hz : i.zero = some z) (hsize : i.size = 1) (hby : i.bytes = bytes) (hzs : z.cells.size = 1)
    {A0 : Option Addr} {n c0 : Nat} {xs : List Value} (hs : a.eval s = .slice A0 n c0) (v0 : Value)
    (hcls : ∀ w, C w → w.ownsRow base e 1 (.slice A0 n c0) n xs ∧ ((Value.slice A0 n c0).ownBlock = v0.ownBlock ∨ ∃ g, (Value.slice A0 n c0).ownBlock = some g ∧ B ≤ g)) (hB : B ≤ W.heap.size) (hown : ∀ g, v0.ownBlock = some g → own g) (hown2 : ∀ w g, Spares own W w → (Value.slice A0 n c0).ownBlock = some g → g < W.heap.size → own g)
    {A : Option Addr} {m c : Nat} {news : List Value} (hx : a.eval x = .slice A m c) (hr : ∀ w, Spares own W w → ks.for (o.looksAt ops) w → ∃ Bx, Row w Bx A m news) (hbare : A = none → c = 0) (h1 : ∀ u ∈ news, u.oneCell' = true)
    (k : Nat) (hk : n + m = k) (ys : List Value) (hys : xs ++ news = ys) (h63 : k ≤ maxLen) (hbytes : k * bytes ≤ 140737488355328) (hbase : base ≤ W.heap.size) (hnew : ∀ w g, Spares own W w → C w → (Value.slice A0 n c0).ownBlock = some g → W.heap.size ≤ g → own g)
    (h : ∀ A' c', wpJ P ops W Q rest js ks (fun w => w.ownsRow base e 1 (.slice A' k c') k ys ∧ ((Value.slice A' k c').ownBlock = v0.ownBlock ∨ ∃ g, (Value.slice A' k c').ownBlock = some g ∧ B ≤ g)) (a.put o.dst (.slice A' k c'))) :
    wpJ P ops W Q (o :: rest) (appJob own base e v0 B k ys :: js) ks C a := by
  subst hk hys
  unfold wpJ jStep
  rw [if_pos hw]
  refine ⟨fun w hW hkn hC => ?_, fun p => wpJ_more _ _ ks _ _ _ (fun k hk => List.mem_cons_of_mem _ hk) (h p.1 p.2)⟩
  obtain ⟨hrow, hblk⟩ := hcls w (hC rfl)
  obtain ⟨Bx, hr'⟩ := hr w hW hkn
  obtain ⟨v', w', hrun, h2, h3, h4⟩ := run_append_row (P := P) (ty := o.type) ht hi hz hsize hby hzs hrow hr' hbare h1 h63 hbytes (Nat.le_trans hbase hW.size)
  obtain ⟨A', c', rfl, _⟩ := slice_of_owned h2
  have hex : (execOp a.eval o).run P w = .ok (.value (.slice A' (n + m) c')) w' := by
    unfold execOp
    simp only [ho, resolve, invoke, builtin, Sem.run_bind, Sem.run_pure, Result.andThen_ok, List.map_toArray, List.map_cons, List.map_nil, hs, hx, hrun]
  rw [hex]
  refine ⟨(A', c'), rfl, trivial, fun _ => ⟨?_, h2, ?_⟩, fun h => by cases h⟩
  · refine ⟨h3.os, h3.tape, h3.output, h3.size, fun q hq ho => h3.block q hq fun e => ?_⟩
    rcases Nat.lt_or_ge q W.heap.size with hlt | hge
    · exact ho (hown2 w q hW e.symm hlt)
    · exact ho (hnew w q hW (hC rfl) e.symm hge)
  · rcases h4 with h4 | h4
    · exact h4 ▸ hblk
    · exact .inr ⟨_, h4, Nat.le_trans hB hW.size⟩
end
theorem spares_drew (own : Nat → Prop) (w : World) : Spares own w { w with drawn := w.drawn + 1 } := ⟨rfl, rfl, rfl, Nat.le_refl _, fun _ _ _ => rfl⟩
end Go.Proofs.Ytnnkioekjobbmaa
