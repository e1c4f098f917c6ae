/-
  A range over an iterator of which each round is told what memory holds: what the iterator owes (Gives), what the loop's body owes, and the statement's law. Over any program, at the fence that lets all in.
-/
import Derived.Test.YtnnkioekjobbmaaQuiet
import Derived.RangeFuncNested
import Derived.RangeFuncLeaves
namespace Go.Proofs.Ytnnkioekjobbmaa
open Go.RowKit

/-- w' has what w has, but for the blocks that 'own' names, and new ones. -/
structure Spares (own : Nat → Prop) (w w' : World) : Prop where
  os : w'.os = w.os
  tape : w'.tape = w.tape
  output : w'.output = w.output
  size : w.heap.size ≤ w'.heap.size
  same : ∀ k, k < w.heap.size → ¬ own k → w'.heap[k]? = w.heap[k]?

section
variable {own own' : Nat → Prop} {a b c w w' : World}
theorem Spares.refl (own : Nat → Prop) (w : World) : Spares own w w := ⟨rfl, rfl, rfl, Nat.le_refl _, fun _ _ _ => rfl⟩
theorem Spares.trans (h : Spares own a b) (k : Spares own b c) : Spares own a c :=
  ⟨k.os.trans h.os, k.tape.trans h.tape, k.output.trans h.output, Nat.le_trans h.size k.size, fun i hi ho => (k.same i (Nat.lt_of_lt_of_le hi h.size) ho).trans (h.same i hi ho)⟩
theorem Spares.wider (h : Spares own a b) (hw : ∀ k, k < a.heap.size → own k → own' k) : Spares own' a b :=
  ⟨h.os, h.tape, h.output, h.size, fun k hk ho => h.same k hk fun h => ho (hw k hk h)⟩
theorem Spares.grows (h : Grows a b) : Spares own a b := ⟨h.os, h.tape, h.output, h.size, fun k hk _ => h.block k hk⟩
theorem Spares.alloc (h : Spares own a w) (o : Obj) : Spares own a (w.alloc o) :=
  h.trans (Spares.grows ((Below.refl _ _).alloc (Nat.le_refl _) o))
theorem Spares.setCell (h : Spares own a w) {p : Addr} (hp : own p.block) (u : Value) : Spares own a (w.setCell p u) :=
  h.trans ⟨rfl, rfl, rfl, by simp [World.setCell], fun k _ ho => Below.heap_setCell _ _ _ k (fun e => ho (e ▸ hp))⟩
theorem Spares.grown {row : Option Nat} (h : Spares own a w) (hg : w.grownBy w' row) (hr : ∀ g, row = some g → own g) : Spares own a w' :=
  h.trans ⟨hg.os, hg.tape, hg.output, hg.size, fun k hk ho => hg.block k hk fun e => ho (hr k e.symm)⟩
theorem Spares.drew (h : Spares own a w) : Spares own a w.drew := ⟨h.os, h.tape, h.output, h.size, h.same⟩
theorem Spares.below {B : Nat} (h : Spares own a w) (hB : B ≤ a.heap.size) (ho : ∀ k, k < B → ¬ own k) : Below B a w := ⟨h.os, h.tape, h.output, h.size, fun k hk => h.same k (by omega) (ho k hk)⟩
end

/-- w' has all blocks below B, and all cells, that w has. -/
def Cellwise (B : Nat) (w w' : World) : Prop := Spares (fun k => B ≤ k ∧ ∀ cs t fr, w.heap[k]? ≠ some (.cells cs t fr)) w w'
section
variable {B : Nat} {a b c w w' : World}
theorem Cellwise.refl (B : Nat) (w : World) : Cellwise B w w := Spares.refl _ w
theorem Cellwise.low (h : Cellwise B w w') {k : Nat} (hk : k < w.heap.size) (hB : k < B) : w'.heap[k]? = w.heap[k]? := Spares.same h k hk fun h => by omega
theorem Cellwise.held (h : Cellwise B w w') {k : Nat} {cs : Array Value} {t : TypeId} {fr : Nat × Nat} (hk : w.heap[k]? = some (.cells cs t fr)) : w'.heap[k]? = some (.cells cs t fr) :=
  (Spares.same h k (Array.getElem?_eq_some_iff.1 hk).1 fun h => h.2 _ _ _ hk).trans hk
theorem Cellwise.grows (h : Grows w w') : Cellwise B w w' := Spares.grows h
theorem Cellwise.trans (h : Cellwise B a b) (k : Cellwise B b c) : Cellwise B a c := by
  refine ⟨k.os.trans h.os, k.tape.trans h.tape, k.output.trans h.output, Nat.le_trans h.size k.size, fun i hi ho => ?_⟩
  rw [← Spares.same h i hi ho]
  refine Spares.same k i (Nat.lt_of_lt_of_le hi h.size) fun ⟨h1, h2⟩ => ho ⟨h1, fun cs t fr e => h2 cs t fr (h.held e)⟩
theorem Cellwise.putObj {l : Nat} {o : Obj} (h : w.heap[l]? = some o) (ho : o.isCells = false) (hl : B ≤ l) (o' : Obj) : Cellwise B w (w.putObj l o') :=
  ⟨rfl, rfl, rfl, by simp, fun k _ hn => World.putObj_heap_other fun e => hn (by
    subst e
    exact ⟨hl, fun cs t fr h' => by rw [h] at h'; injection h' with h'; subst h'; cases ho⟩)⟩
theorem Cellwise.boxed (h : Cellwise B w w') {k : Nat} {t : TypeId} {v : Value} (hk : Boxed w k t v) : Boxed w' k t v := h.held hk
theorem Cellwise.below (h : Cellwise B w w') (hB : B ≤ w.heap.size) : Below B w w' := Spares.below h hB fun k hk h => by omega
theorem Cellwise.under (h : Cellwise B w w') {n₀ : Nat} (h1 : n₀ ≤ B) (h2 : n₀ ≤ w.heap.size) : Below n₀ w w' := Spares.below h h2 fun k hk h => by omega
theorem Cellwise.cell (h : Cellwise B w w') {p : Addr} {v : Value} (hp : w.cell? p = some v) : w'.cell? p = some v := by
  obtain ⟨o, ho, hc⟩ := cells_of_cell hp
  cases o <;> first | (cases hc; done) | skip
  exact (World.cell?_of_block ((h.held ho).trans ho.symm)).trans hp
theorem Cellwise.owned (h : Cellwise B w w') {base : Nat} {e : TypeId} {size : Nat} {v : Value} {n : Nat} {xs : List Value} (hv : w.ownsRow base e size v n xs) : w'.ownsRow base e size v n xs := by
  obtain ⟨h1, h2⟩ := hv
  refine ⟨h1, ?_⟩
  rcases h2 with h2 | ⟨g, cap, cur, hv, hb, hh, r⟩
  · exact .inl h2
  · exact .inr ⟨g, cap, cur, hv, hb, h.held hh, r⟩
end

/-- The blocks that a loop's body may write: the caller's own, laid from n₀ up to m ahead of the loop; cells that it has laid since the loop began. -/
def Mine (n₀ m n₁ : Nat) (w : World) (k : Nat) : Prop := (n₀ ≤ k ∧ k < m) ∨ (n₁ ≤ k ∧ ∃ cs t fr, w.heap[k]? = some (.cells cs t fr))

/-- What an iterator owes: between two rounds J; behind a round that has said 'no more' Jx. A round is told of what it is handed (Gd), and leaves what is safe, and what has been laid since the last one, as it is. -/
def Gives {α : Type} (P : Program) (n : Nat) (g : Nat) (lb : Array Value) (encs : α → Array Value) (Gd : List α → α → World → World → Prop) (Safe : Nat → Prop) (S Sp : List α → Prop) (w : World) : Prop :=
  ∀ (l : Nat) (J Jx : List α → World → Prop) (W : World), Grows w W → (∀ s A B, J s A → Grows A B → J s B) → (∀ s A B, Jx s A → Grows A B → Jx s B) →
    (∀ pre x W0 W1, J pre W0 → Grows W0 W1 → Gd pre x W0 W1 → YieldAt Fence.wide n P l (encs x) W1 fun e W' =>
      (e = .returned (.bool true) ∧ J (pre ++ [x]) W' ∧ W1.heap.size ≤ W'.heap.size ∧ ∀ k, k < W1.heap.size → Safe k ∨ W0.heap.size ≤ k → W'.heap[k]? = W1.heap[k]?) ∨ (e = .returned (.bool false) ∧ Jx (pre ++ [x]) W')) →
    J [] W →
    CallsIn Fence.wide n P g (#[.func (.yield l) #[] #[]] ++ lb) W fun e W' => (∃ v, e = .returned v) ∧ ((∃ xs, S xs ∧ J xs W') ∨ (∃ pre, Sp pre ∧ Jx pre W'))

/-- No panic. -/
def calm (Q : Exit → Act → World → Prop) : Exit → Act → World → Prop
  | .panic _, _, _ => False
  | e, a, w => Q e a w
theorem calm_out {Q : Exit → Act → World → Prop} {e : Exit} {a : Act} {w : World} (h : calm Q e a w) : Q e a w := by
  cases e <;> first | exact h | exact h.elim
theorem wpIn_calm {F : Fence} {n : Nat} {P : Program} {c : Code} {Q : Exit → Act → World → Prop} {a : Act} {w : World} (h : c.wpIn F n P (calm Q) a w) : c.wpIn F n P Q a w := wpIn_mono h fun _ _ _ h => calm_out h

/-- How a round's body may be left: off its end, or by a return. -/
def roundLeft {α : Type} (own : Nat → Prop) (I Ix : List α → World → Prop) (xs : List α) (W : World) : Exit → Act → World → Prop
  | .normal, _, W' => Spares own W W' ∧ I xs W'
  | .ret, _, W' => Spares own W W' ∧ Ix xs W'
  | _, _, _ => False

theorem range_law {α : Type} {P : Program} {n : Nat} {g : Operand} {ps : Array Tmp} {assign body : Code} {Q : Exit → Act → World → Prop} {a : Act} {w : World}
    {gf : Nat} {lb : Array Value} (hg : a.eval g = .func (.func gf) #[] lb) (eg : ∀ args w, (callFunc gf args).run P w = .ok (.enter gf args) w)
    {encs : α → Array Value} {Gd : List α → α → World → World → Prop} {Safe : Nat → Prop} {S Sp : List α → Prop} (hseq : Gives P (n - 1) gf lb encs Gd Safe S Sp w) (hps : ∀ x, (encs x).size = ps.size)
    (n₀ m : Nat) (hnm : n₀ ≤ m) (hm : m ≤ w.heap.size) (hsafe : ∀ k, Safe k → k < n₀ ∨ (m ≤ k ∧ k < w.heap.size))
    (I Ix : List α → World → Prop) (hI : ∀ s A B, I s A → Cellwise w.heap.size A B → I s B) (hIx : ∀ s A B, Ix s A → Cellwise w.heap.size A B → Ix s B) (h0 : I [] w)
    (hround : ∀ (l : Nat) (pre : List α) (x : α) (W0 W : World), w.heap.size ≤ W0.heap.size → I pre W0 → Grows W0 W → Gd pre x W0 W →
      assign.wpIn (Fence.wide.inRound l) (n - 1) P (Exit.then (fun a₁ Wa => Grows W Wa ∧ ∀ Wb, Cellwise w.heap.size Wa Wb →
        body.wpIn (Fence.wide.inRound l) (n - 1) P (roundLeft (Mine n₀ m w.heap.size W0) I Ix (pre ++ [x]) Wb) a₁ Wb) (fun _ _ _ => False)) { tmps := (ps.zip (encs x)).foldl (fun t (p, v) => t.setIfInBounds p v) a.tmps, defers := [] } W)
    (hdone : ∀ (D : Nat) (xs : List α) (W : World), w.heap.size ≤ D → S xs → I xs W → W.heap[D]? = some (.deferred (some [])) → Q .normal { a with defers := { target := .collected D, args := #[] } :: a.defers } W)
    (hstop : ∀ (D : Nat) (pre : List α) (W : World), w.heap.size ≤ D → Sp pre → Ix pre W → W.heap[D]? = some (.deferred (some [])) → Code.ret.wpIn Fence.wide n P Q { a with defers := { target := .collected D, args := #[] } :: a.defers } W) :
    (Code.rangeFunc g ps assign body).wpIn Fence.wide n P Q a w := by
  refine wpIn_rangeFunc fun fn _ => ?_
  rw [show Fence.wide.round = none from rfl]
  obtain ⟨rec, hrec⟩ : ∃ rec : LoopState → Option Code → Loop, rec = fun st pe => { state := st, pending := pe, fn, tmps := a.tmps, params := ps, assign, body, defers := w.heap.size } := ⟨_, rfl⟩
  have hrun := run_enterLoop_outer (P := P) (w := w) fn a.tmps ps assign body
  rw [show ({ state := .ready, pending := none, fn, tmps := a.tmps, params := ps, assign, body, defers := w.heap.size } : Loop) = rec .ready none by rw [hrec]] at hrun
  have hD0 : ((w.alloc (.deferred (some []))).alloc (.loop (rec .ready none))).heap[w.heap.size]? = some (.deferred (some [])) := (Below.heap_alloc _ _ _ (by simp)).trans (World.alloc_heap_new w _)
  have hL0 : ((w.alloc (.deferred (some []))).alloc (.loop (rec .ready none))).heap[w.heap.size + 1]? = some (.loop (rec .ready none)) := by
    have := World.alloc_heap_new (w.alloc (.deferred (some []))) (.loop (rec .ready none)); rwa [World.size_alloc] at this
  have hG0 : Grows w ((w.alloc (.deferred (some []))).alloc (.loop (rec .ready none))) := ((Below.refl _ w).alloc (Nat.le_refl _) _).alloc (by simp) _
  generalize (w.alloc (.deferred (some []))).alloc (.loop (rec .ready none)) = V at *
  refine ⟨w.heap.size + 1, _, V, { target := .fn (.func gf) lb, args := #[.func (.yield (w.heap.size + 1)) #[] #[]] }, V, gf, #[.func (.yield (w.heap.size + 1)) #[] #[]] ++ lb, V, hrun, ?_, fun _ _ => trivial, ?_, (fun h => by cases h), ?_⟩
  · simp only [resolve, hg]
    simp [go_sem]
  · simp [invoke, go_sem, eg]
  have stay : ∀ {A B : World} {k : Nat} {o : Obj}, A.heap[k]? = some o → Grows A B → B.heap[k]? = some o := fun hk hb => (hb.block _ (Array.getElem?_eq_some_iff.1 hk).1).trans hk
  -- what an iterator is told of: the caller's own, the loop's record, the block for deferred calls
  refine (hseq (w.heap.size + 1) (fun s W => I s W ∧ W.heap[w.heap.size + 1]? = some (.loop (rec .ready none)) ∧ W.heap[w.heap.size]? = some (.deferred (some [])))
    (fun s W => Ix s W ∧ W.heap[w.heap.size + 1]? = some (.loop (rec .done (some .ret))) ∧ W.heap[w.heap.size]? = some (.deferred (some []))) V hG0
    (fun s A B h hb => ⟨hI s A B h.1 (.grows hb), stay h.2.1 hb, stay h.2.2 hb⟩) (fun s A B h hb => ⟨hIx s A B h.1 (.grows hb), stay h.2.1 hb, stay h.2.2 hb⟩) ?_ ⟨hI [] w V h0 (.grows hG0), hL0, hD0⟩).mono ?_
  · rintro pre x W0 W ⟨hi, hl, hd⟩ hb hgd
    have hl1 := stay hl hb
    have hd1 := stay hd hb
    have hsz : w.heap.size + 1 < W0.heap.size := (Array.getElem?_eq_some_iff.1 hl).1
    have hy := run_yield (P := P) (args := encs x) hl1 (by rw [hrec]; exact hps x)
    rw [hrec] at hy
    refine ⟨fn, _, assign, body, hy, roundIn_of_wpIn trivial (wpIn_mono (hround _ pre x W0 W (by omega) hi hb hgd) ?_)⟩
    intro e a₁ Wa he
    cases e <;> first | exact he.elim | skip
    obtain ⟨hga, hbody⟩ := he
    have hl2 := stay hl1 hga
    have hd2 := stay hd1 hga
    refine ⟨_, run_beginRound hl2 (by rw [hrec]), ?_⟩
    have hsz2 : w.heap.size + 1 < Wa.heap.size := (Array.getElem?_eq_some_iff.1 hl2).1
    have hl3 : (Wa.putObj (w.heap.size + 1) (.loop { rec .ready none with state := .busy })).heap[w.heap.size + 1]? = some (.loop { rec .ready none with state := .busy }) := World.putObj_heap_same hsz2
    have hd3 : (Wa.putObj (w.heap.size + 1) (.loop { rec .ready none with state := .busy })).heap[w.heap.size]? = some (.deferred (some [])) := (World.putObj_heap_other (by omega)).trans hd2
    have hcw : Cellwise w.heap.size Wa (Wa.putObj (w.heap.size + 1) (.loop { rec .ready none with state := .busy })) := .putObj hl2 rfl (by omega) _
    have hother : ∀ k, k ≠ w.heap.size + 1 → (Wa.putObj (w.heap.size + 1) (.loop { rec .ready none with state := .busy })).heap[k]? = Wa.heap[k]? := fun k hk => World.putObj_heap_other hk
    have hbd := hbody _ hcw
    have hszb : (Wa.putObj (w.heap.size + 1) (.loop { rec .ready none with state := .busy })).heap.size = Wa.heap.size := by simp
    generalize Wa.putObj (w.heap.size + 1) (.loop { rec .ready none with state := .busy }) = Wb at *
    refine wpIn_mono hbd ?_
    -- what is no one's own stays
    have keepL : ∀ {W' : World}, Spares (Mine n₀ m w.heap.size W0) Wb W' → W'.heap[w.heap.size + 1]? = some (.loop { rec .ready none with state := .busy }) ∧ W'.heap[w.heap.size]? = some (.deferred (some [])) := fun hs =>
      ⟨(hs.same _ (Array.getElem?_eq_some_iff.1 hl3).1 (fun h => by
        rcases h with h | ⟨_, cs, t, fr, h⟩
        · omega
        · rw [hl] at h; cases h)).trans hl3,
       (hs.same _ (Array.getElem?_eq_some_iff.1 hd3).1 (fun h => by
        rcases h with h | ⟨_, cs, t, fr, h⟩
        · omega
        · rw [hd] at h; cases h)).trans hd3⟩
    have fin : ∀ (jump : Option Code) (W' : World), Spares (Mine n₀ m w.heap.size W0) Wb W' →
        (Instr.endRound (w.heap.size + 1) jump).run P W' = .ok (.bool jump.isNone) (W'.putObj (w.heap.size + 1) (.loop (rec (if jump.isNone then .ready else .done) jump))) ∧
        Cellwise w.heap.size W' (W'.putObj (w.heap.size + 1) (.loop (rec (if jump.isNone then .ready else .done) jump))) ∧
        (W'.putObj (w.heap.size + 1) (.loop (rec (if jump.isNone then .ready else .done) jump))).heap[w.heap.size + 1]? = some (.loop (rec (if jump.isNone then .ready else .done) jump)) ∧
        (W'.putObj (w.heap.size + 1) (.loop (rec (if jump.isNone then .ready else .done) jump))).heap[w.heap.size]? = some (.deferred (some [])) := fun jump W' hs => by
      obtain ⟨k1, k2⟩ := keepL hs
      have hr := run_endRound (P := P) jump k1
      rw [hrec] at hr k1 ⊢
      exact ⟨hr, .putObj k1 rfl (by omega) _, World.putObj_heap_same (Array.getElem?_eq_some_iff.1 k1).1, (World.putObj_heap_other (by omega)).trans k2⟩
    intro e a₂ W' hp
    cases e <;> first | exact hp.elim | skip
    · -- off its end
      obtain ⟨hs, hi'⟩ := hp
      obtain ⟨hr, hc, k1, k2⟩ := fin none W' hs
      refine ⟨_, _, hr, .inl ⟨rfl, ⟨hI _ _ _ hi' hc, k1, k2⟩, ?_, ?_⟩⟩
      · rw [World.putObj_size]
        exact Nat.le_trans hga.size (Nat.le_trans (by omega) hs.size)
      · intro k hk hcase
        have hk1 : k ≠ w.heap.size + 1 := by
          rcases hcase with h | h
          · have := hsafe k h; omega
          · omega
        have hkb : k < Wb.heap.size := by have := hga.size; omega
        rw [World.putObj_heap_other hk1, hs.same k hkb, hother k hk1, hga.block k hk]
        rintro (h | ⟨h, cs, t, fr, hh⟩)
        · rcases hcase with hc | hc
          · have := hsafe k hc; omega
          · omega
        · rcases hcase with hc | hc
          · have := hsafe k hc; omega
          · have := (Array.getElem?_eq_some_iff.1 hh).1; omega
    · -- by a return
      obtain ⟨hs, hi'⟩ := hp
      obtain ⟨hr, hc, k1, k2⟩ := fin (some .ret) W' hs
      exact ⟨_, _, hr, .inr ⟨rfl, hIx _ _ _ hi' hc, k1, k2⟩⟩
  · rintro e W2 ⟨⟨v, rfl⟩, (⟨xs, hS, hi, hl, hd⟩ | ⟨pre, hSp, hi, hl, hd⟩)⟩
    · have hr : (Instr.endLoop (w.heap.size + 1)).run P W2 = .ok none (W2.putObj (w.heap.size + 1) (.loop { rec .ready none with state := .exhausted })) := by
        have hr := run_endLoop (P := P) hl (by rw [hrec]; simp)
        rw [hrec] at hr ⊢
        exact hr
      refine ⟨none, _, hr, hdone _ xs _ (Nat.le_refl _) hS (hI _ _ _ hi (.putObj hl rfl (by omega) _)) ((World.putObj_heap_other (by omega)).trans hd)⟩
    · have hr : (Instr.endLoop (w.heap.size + 1)).run P W2 = .ok (some .ret) (W2.putObj (w.heap.size + 1) (.loop { rec .done (some .ret) with state := .exhausted })) := by
        have hr := run_endLoop (P := P) hl (by rw [hrec]; simp)
        rw [hrec] at hr ⊢
        exact hr
      refine ⟨some .ret, _, hr, hstop _ pre _ (Nat.le_refl _) hSp (hIx _ _ _ hi (.putObj hl rfl (by omega) _)) ((World.putObj_heap_other (by omega)).trans hd)⟩
end Go.Proofs.Ytnnkioekjobbmaa
