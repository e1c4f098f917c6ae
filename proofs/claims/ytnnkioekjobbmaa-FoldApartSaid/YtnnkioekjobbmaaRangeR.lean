/-
  A range over an iterator whose rounds own what they lay: which blocks are the rounds' own is told by a set that grows; an iterator writes none of them, and a round writes no others. So iterators over iterators fit.
-/
import Derived.Test.YtnnkioekjobbmaaRange
namespace Go.Proofs.Ytnnkioekjobbmaa
open Go.RowKit

/-- Nothing has been written that was there ahead of block n₀, and nothing that the rounds own. -/
def OffR (n₀ : Nat) (R : Nat → Prop) (A B : World) : Prop := Spares (fun k => n₀ ≤ k ∧ ¬ R k) A B

/-- What an iterator owes. It needs the blocks Dead as they are. -/
def GivesR {α : Type} (P : Program) (n : Nat) (g : Nat) (lb : Array Value) (encs : α → Array Value) (Gd : List α → α → Prop) (Dead : Nat → Prop) (S : List α → Prop) (w : World) : Prop :=
  ∀ (l : Nat) (J Jx : List α → (Nat → Prop) → World → Prop) (W : World) (R0 : Nat → Prop), Grows w W → (∀ k, R0 k → ¬ Dead k) →
    (∀ s R A, J s R A → ∀ k, R k → k < A.heap.size) →
    (∀ s R A B, J s R A → OffR W.heap.size R A B → J s R B) → (∀ s R A B, Jx s R A → OffR W.heap.size R A B → Jx s R B) →
    (∀ pre R x W1, J pre R W1 → Gd pre x → YieldAt Fence.wide n P l (encs x) W1 fun e W' =>
      ∃ R', (∀ k, R' k → R k ∨ W1.heap.size ≤ k) ∧ Spares R W1 W' ∧ ((e = .returned (.bool true) ∧ J (pre ++ [x]) R' W') ∨ (e = .returned (.bool false) ∧ Jx (pre ++ [x]) R' W'))) →
    J [] R0 W →
    CallsIn Fence.wide n P g (#[.func (.yield l) #[] #[]] ++ lb) W fun e W' => (∃ v, e = .returned v) ∧ ((∃ xs R, S xs ∧ J xs R W') ∨ (∃ pre R, Jx pre R W'))

/-- How a round's body may be left: off its end, or by a return. -/
def leftR {α : Type} (R : Nat → Prop) (N : Nat) (I Ix : List α → (Nat → Prop) → World → Prop) (xs : List α) (W : World) : Exit → Act → World → Prop
  | .normal, _, W' => ∃ R', (∀ k, R' k → R k ∨ N ≤ k) ∧ Spares (fun k => R k ∨ N ≤ k) W W' ∧ I xs R' W'
  | .ret, _, W' => ∃ R', (∀ k, R' k → R k ∨ N ≤ k) ∧ Spares (fun k => R k ∨ N ≤ k) W W' ∧ Ix xs R' W'
  | _, _, _ => False

theorem range_lawR {α : Type} {P : Program} {n : Nat} {g : Operand} {ps : Array Tmp} {assign body : Code} {Q : Exit → Act → World → Prop} {a : Act} {w : World}
    {gf : Nat} {lb : Array Value} (hg : a.eval g = .func (.func gf) #[] lb) (eg : ∀ args w, (callFunc gf args).run P w = .ok (.enter gf args) w)
    {encs : α → Array Value} {Gd : List α → α → Prop} {Dead : Nat → Prop} {S : List α → Prop} (hseq : GivesR P (n - 1) gf lb encs Gd Dead S w) (hps : ∀ x, (encs x).size = ps.size)
    (R0 : Nat → Prop) (hdead : ∀ k, Dead k → k < w.heap.size ∧ ¬ R0 k)
    (I Ix : List α → (Nat → Prop) → World → Prop) (hlt : ∀ s R A, I s R A → ∀ k, R k → k < A.heap.size)
    (hI : ∀ s R A B, I s R A → OffR w.heap.size R A B → I s R B) (hIx : ∀ s R A B, Ix s R A → OffR w.heap.size R A B → Ix s R B) (h0 : I [] R0 w)
    (hround : ∀ (l : Nat) (pre : List α) (R : Nat → Prop) (x : α) (W : World), w.heap.size + 1 < W.heap.size → I pre R W → Gd pre x →
      assign.wpIn (Fence.wide.inRound l) (n - 1) P (Exit.then (fun a₁ Wa => Grows W Wa ∧ ∀ Wb, Spares (fun k => k = w.heap.size + 1) Wa Wb → I pre R Wb →
        body.wpIn (Fence.wide.inRound l) (n - 1) P (leftR R W.heap.size I Ix (pre ++ [x]) Wb) a₁ Wb) (fun _ _ _ => False)) { tmps := (ps.zip (encs x)).foldl (fun t (p, v) => t.setIfInBounds p v) a.tmps, defers := [] } W)
    (hdone : ∀ (D : Nat) (xs : List α) (R : Nat → Prop) (W : World), w.heap.size ≤ D → ¬ R D → S xs → I xs R W → W.heap[D]? = some (.deferred (some [])) → Q .normal { a with defers := { target := .collected D, args := #[] } :: a.defers } W)
    (hstop : ∀ (D : Nat) (pre : List α) (R : Nat → Prop) (W : World), w.heap.size ≤ D → ¬ R D → Ix pre R W → W.heap[D]? = some (.deferred (some [])) → Code.ret.wpIn Fence.wide n P Q { a with defers := { target := .collected D, args := #[] } :: a.defers } W) :
    (Code.rangeFunc g ps assign body).wpIn Fence.wide n P Q a w := by
  refine wpIn_rangeFunc fun fn _ => ?_
  rw [show Fence.wide.round = none from rfl]
  obtain ⟨rec, hrec⟩ : ∃ rec : LoopState → Option Code → Loop, rec = fun st pe => { state := st, pending := pe, fn, tmps := a.tmps, params := ps, assign, body, defers := w.heap.size } := ⟨_, rfl⟩
  have hrun := run_enterLoop_outer (P := P) (w := w) fn a.tmps ps assign body
  rw [show ({ state := .ready, pending := none, fn, tmps := a.tmps, params := ps, assign, body, defers := w.heap.size } : Loop) = rec .ready none by rw [hrec]] at hrun
  have hD0 : ((w.alloc (.deferred (some []))).alloc (.loop (rec .ready none))).heap[w.heap.size]? = some (.deferred (some [])) := (Below.heap_alloc _ _ _ (by simp)).trans (World.alloc_heap_new w _)
  have hL0 : ((w.alloc (.deferred (some []))).alloc (.loop (rec .ready none))).heap[w.heap.size + 1]? = some (.loop (rec .ready none)) := by
    have := World.alloc_heap_new (w.alloc (.deferred (some []))) (.loop (rec .ready none)); rwa [World.size_alloc] at this
  have hG0 : Grows w ((w.alloc (.deferred (some []))).alloc (.loop (rec .ready none))) := ((Below.refl _ w).alloc (Nat.le_refl _) _).alloc (by simp) _
  generalize (w.alloc (.deferred (some []))).alloc (.loop (rec .ready none)) = V at *
  have hVs : w.heap.size + 1 < V.heap.size := (Array.getElem?_eq_some_iff.1 hL0).1
  refine ⟨w.heap.size + 1, _, V, { target := .fn (.func gf) lb, args := #[.func (.yield (w.heap.size + 1)) #[] #[]] }, V, gf, #[.func (.yield (w.heap.size + 1)) #[] #[]] ++ lb, V, hrun, ?_, fun _ _ => trivial, ?_, (fun h => by cases h), ?_⟩
  · simp only [resolve, hg]
    simp [go_sem]
  · simp [invoke, go_sem, eg]
  have hR0 : ∀ k, R0 k → k < w.heap.size := hlt _ _ _ h0
  -- what the rounds own: the body's own, the loop's record, the block for deferred calls
  refine (hseq (w.heap.size + 1)
    (fun s R A => ∃ R1, (∀ k, R k ↔ R1 k ∨ k = w.heap.size ∨ k = w.heap.size + 1) ∧ ¬ R1 w.heap.size ∧ ¬ R1 (w.heap.size + 1) ∧ I s R1 A ∧ A.heap[w.heap.size + 1]? = some (.loop (rec .ready none)) ∧ A.heap[w.heap.size]? = some (.deferred (some [])))
    (fun s R A => ∃ R1, (∀ k, R k ↔ R1 k ∨ k = w.heap.size ∨ k = w.heap.size + 1) ∧ ¬ R1 w.heap.size ∧ ¬ R1 (w.heap.size + 1) ∧ Ix s R1 A ∧ A.heap[w.heap.size + 1]? = some (.loop (rec .done (some .ret))) ∧ A.heap[w.heap.size]? = some (.deferred (some [])))
    V (fun k => R0 k ∨ k = w.heap.size ∨ k = w.heap.size + 1) hG0 ?_ ?_ ?_ ?_ ?_ ⟨R0, fun k => Iff.rfl, fun h => by have := hR0 _ h; omega, fun h => by have := hR0 _ h; omega, hI _ _ _ _ h0 (Spares.grows hG0), hL0, hD0⟩).mono ?_
  · rintro k (h | h | h) hd
    · exact (hdead k hd).2 h
    · have := (hdead k hd).1; omega
    · have := (hdead k hd).1; omega
  · rintro s R A ⟨R1, h1, _, _, h2, h3, h4⟩ k hk
    rcases (h1 k).1 hk with h | rfl | rfl
    · exact hlt _ _ _ h2 k h
    · exact (Array.getElem?_eq_some_iff.1 h4).1
    · exact (Array.getElem?_eq_some_iff.1 h3).1
  · rintro s R A B ⟨R1, h1, a1, a2, h2, h3, h4⟩ hs
    refine ⟨R1, h1, a1, a2, hI _ _ _ _ h2 (Spares.wider hs fun k _ hk => ⟨by omega, fun h => hk.2 ((h1 k).2 (.inl h))⟩), ?_, ?_⟩
    · exact (Spares.same hs _ (Array.getElem?_eq_some_iff.1 h3).1 fun h => h.2 ((h1 _).2 (.inr (.inr rfl)))).trans h3
    · exact (Spares.same hs _ (Array.getElem?_eq_some_iff.1 h4).1 fun h => h.2 ((h1 _).2 (.inr (.inl rfl)))).trans h4
  · rintro s R A B ⟨R1, h1, a1, a2, h2, h3, h4⟩ hs
    refine ⟨R1, h1, a1, a2, hIx _ _ _ _ h2 (Spares.wider hs fun k _ hk => ⟨by omega, fun h => hk.2 ((h1 k).2 (.inl h))⟩), ?_, ?_⟩
    · exact (Spares.same hs _ (Array.getElem?_eq_some_iff.1 h3).1 fun h => h.2 ((h1 _).2 (.inr (.inr rfl)))).trans h3
    · exact (Spares.same hs _ (Array.getElem?_eq_some_iff.1 h4).1 fun h => h.2 ((h1 _).2 (.inr (.inl rfl)))).trans h4
  · rintro pre R x W ⟨R1, h1, a1, a2, hi, hl, hd⟩ hgd
    have hsz : w.heap.size + 1 < W.heap.size := (Array.getElem?_eq_some_iff.1 hl).1
    have hy := run_yield (P := P) (args := encs x) hl (by rw [hrec]; exact hps x)
    rw [hrec] at hy
    refine ⟨fn, _, assign, body, hy, roundIn_of_wpIn trivial (wpIn_mono (hround _ pre R1 x W hsz hi hgd) ?_)⟩
    intro e a₁ Wa he
    cases e <;> first | exact he.elim | skip
    obtain ⟨hga, hbody⟩ := he
    have hl2 := (hga.block _ (Array.getElem?_eq_some_iff.1 hl).1).trans hl
    have hd2 := (hga.block _ (Array.getElem?_eq_some_iff.1 hd).1).trans hd
    refine ⟨_, run_beginRound hl2 (by rw [hrec]), ?_⟩
    have hsz2 : w.heap.size + 1 < Wa.heap.size := (Array.getElem?_eq_some_iff.1 hl2).1
    have hl3 : (Wa.putObj (w.heap.size + 1) (.loop { rec .ready none with state := .busy })).heap[w.heap.size + 1]? = some (.loop { rec .ready none with state := .busy }) := World.putObj_heap_same hsz2
    have hd3 : (Wa.putObj (w.heap.size + 1) (.loop { rec .ready none with state := .busy })).heap[w.heap.size]? = some (.deferred (some [])) := (World.putObj_heap_other (by omega)).trans hd2
    have put : ∀ (A : World) (o : Obj), Spares (fun k => k = w.heap.size + 1) A (A.putObj (w.heap.size + 1) o) := fun A o => ⟨rfl, rfl, rfl, by simp, fun k _ hk => World.putObj_heap_other hk⟩
    have hsp := put Wa (.loop { rec .ready none with state := .busy })
    generalize Wa.putObj (w.heap.size + 1) (.loop { rec .ready none with state := .busy }) = Wb at *
    have hib : I pre R1 Wb := hI _ _ _ _ (hI _ _ _ _ hi (Spares.grows hga)) (Spares.wider hsp fun k _ hk => by subst hk; exact ⟨by omega, a2⟩)
    refine wpIn_mono (hbody _ hsp hib) ?_
    have fin : ∀ (jump : Option Code) (W' : World), Spares (fun k => R1 k ∨ W.heap.size ≤ k) Wb W' →
        (Instr.endRound (w.heap.size + 1) jump).run P W' = .ok (.bool jump.isNone) (W'.putObj (w.heap.size + 1) (.loop (rec (if jump.isNone then .ready else .done) jump))) ∧
        Spares R W (W'.putObj (w.heap.size + 1) (.loop (rec (if jump.isNone then .ready else .done) jump))) ∧
        (W'.putObj (w.heap.size + 1) (.loop (rec (if jump.isNone then .ready else .done) jump))).heap[w.heap.size + 1]? = some (.loop (rec (if jump.isNone then .ready else .done) jump)) ∧
        (W'.putObj (w.heap.size + 1) (.loop (rec (if jump.isNone then .ready else .done) jump))).heap[w.heap.size]? = some (.deferred (some [])) := fun jump W' hs => by
      have k1 := (hs.same _ (Array.getElem?_eq_some_iff.1 hl3).1 (fun h => by
        rcases h with h | h
        · exact a2 h
        · omega)).trans hl3
      have k2 := (hs.same _ (Array.getElem?_eq_some_iff.1 hd3).1 (fun h => by
        rcases h with h | h
        · exact a1 h
        · omega)).trans hd3
      have hr := run_endRound (P := P) jump k1
      rw [hrec] at hr k1 ⊢
      refine ⟨hr, ?_, World.putObj_heap_same (Array.getElem?_eq_some_iff.1 k1).1, (World.putObj_heap_other (by omega)).trans k2⟩
      have c1 : Spares (fun k => R k ∨ W.heap.size ≤ k) W Wa := Spares.grows hga
      have c2 : Spares (fun k => R k ∨ W.heap.size ≤ k) Wa Wb := Spares.wider hsp fun k _ hk => .inl ((h1 k).2 (.inr (.inr hk)))
      have c3 : Spares (fun k => R k ∨ W.heap.size ≤ k) Wb W' := Spares.wider hs fun k _ hk => hk.imp (fun h => (h1 k).2 (.inl h)) id
      have c4 : Spares (fun k => R k ∨ W.heap.size ≤ k) W' (W'.putObj (w.heap.size + 1) (.loop ((fun st pe => { state := st, pending := pe, fn, tmps := a.tmps, params := ps, assign, body, defers := w.heap.size } : LoopState → Option Code → Loop) (if jump.isNone then .ready else .done) jump))) := Spares.wider (put _ _) fun k _ hk => .inl ((h1 k).2 (.inr (.inr hk)))
      exact Spares.wider (c1.trans (c2.trans (c3.trans c4))) fun k hk h => h.elim id fun h => by omega
    have sub : ∀ {R' : Nat → Prop}, (∀ k, R' k → R1 k ∨ W.heap.size ≤ k) → (∀ k, (R' k ∨ k = w.heap.size ∨ k = w.heap.size + 1) → R k ∨ W.heap.size ≤ k) ∧ ¬ R' w.heap.size ∧ ¬ R' (w.heap.size + 1) := fun hs => by
      refine ⟨fun k hk => ?_, fun h => ?_, fun h => ?_⟩
      · rcases hk with h | h | h
        · exact (hs k h).imp (fun h => (h1 k).2 (.inl h)) id
        · exact .inl ((h1 k).2 (.inr (.inl h)))
        · exact .inl ((h1 k).2 (.inr (.inr h)))
      · rcases hs _ h with h | h
        · exact a1 h
        · omega
      · rcases hs _ h with h | h
        · exact a2 h
        · omega
    intro e a₂ W' hp
    cases e <;> first | exact hp.elim | skip
    · obtain ⟨R', hr', hs, hi'⟩ := hp
      obtain ⟨hr, hc, k1, k2⟩ := fin none W' hs
      obtain ⟨b1, b2, b3⟩ := sub hr'
      refine ⟨_, _, hr, fun k => R' k ∨ k = w.heap.size ∨ k = w.heap.size + 1, b1, hc, .inl ⟨rfl, R', fun k => Iff.rfl, b2, b3, hI _ _ _ _ hi' (Spares.wider (put _ _) fun k _ hk => by subst hk; exact ⟨by omega, b3⟩), k1, k2⟩⟩
    · obtain ⟨R', hr', hs, hi'⟩ := hp
      obtain ⟨hr, hc, k1, k2⟩ := fin (some .ret) W' hs
      obtain ⟨b1, b2, b3⟩ := sub hr'
      refine ⟨_, _, hr, fun k => R' k ∨ k = w.heap.size ∨ k = w.heap.size + 1, b1, hc, .inr ⟨rfl, R', fun k => Iff.rfl, b2, b3, hIx _ _ _ _ hi' (Spares.wider (put _ _) fun k _ hk => by subst hk; exact ⟨by omega, b3⟩), k1, k2⟩⟩
  · have put : ∀ (A : World) (o : Obj), Spares (fun k => k = w.heap.size + 1) A (A.putObj (w.heap.size + 1) o) := fun A o => ⟨rfl, rfl, rfl, by simp, fun k _ hk => World.putObj_heap_other hk⟩
    rintro e W2 ⟨⟨v, rfl⟩, (⟨xs, R, hS, R1, h1, a1, a2, hi, hl, hd⟩ | ⟨pre, R, R1, h1, a1, a2, hi, hl, hd⟩)⟩
    · have hr : (Instr.endLoop (w.heap.size + 1)).run P W2 = .ok none (W2.putObj (w.heap.size + 1) (.loop { rec .ready none with state := .exhausted })) := by
        have hr := run_endLoop (P := P) hl (by rw [hrec]; simp)
        rw [hrec] at hr ⊢
        exact hr
      exact ⟨none, _, hr, hdone _ xs R1 _ (Nat.le_refl _) a1 hS (hI _ _ _ _ hi (Spares.wider (put _ _) fun k _ hk => by subst hk; exact ⟨by omega, a2⟩)) ((World.putObj_heap_other (by omega)).trans hd)⟩
    · have hr : (Instr.endLoop (w.heap.size + 1)).run P W2 = .ok (some .ret) (W2.putObj (w.heap.size + 1) (.loop { rec .done (some .ret) with state := .exhausted })) := by
        have hr := run_endLoop (P := P) hl (by rw [hrec]; simp)
        rw [hrec] at hr ⊢
        exact hr
      exact ⟨some .ret, _, hr, hstop _ pre R1 _ (Nat.le_refl _) a1 (hIx _ _ _ _ hi (Spares.wider (put _ _) fun k _ hk => by subst hk; exact ⟨by omega, a2⟩)) ((World.putObj_heap_other (by omega)).trans hd)⟩
end Go.Proofs.Ytnnkioekjobbmaa
