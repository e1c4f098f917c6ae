/-
  A range over an iterator that writes memory of its own between rounds: what it owes (GivesM), what the loop's body owes, and the statement's law. Over any program, at the fence that lets all in.
-/
import Derived.Test.YtlcpbkbojjpfaaaRange
namespace Go.Proofs.Ytlcpbkbojjpfaaa
open Go.RowKit

/-- What an iterator owes that writes memory: between two rounds J; behind a round that has said 'no more' Jx. Between two rounds it writes what is its own then (own), and new memory. A round is told of what it is handed (Gd), and leaves what is safe, and what has been laid since the last one, as it is. S tells of the last round's world, and of the one that is left. -/
def GivesM {α : Type} (P : Program) (n : Nat) (g : Nat) (lb : Array Value) (encs : α → Array Value) (own : List α → Nat → Prop) (Gd : List α → α → World → World → Prop) (Safe : Nat → Prop) (S : List α → World → World → Prop) (Sp : List α → Prop) (w : World) : Prop :=
  ∀ (l : Nat) (J Jx : List α → World → Prop) (W : World), Grows w W → (∀ s A B, J s A → Spares (own s) A B → J s B) → (∀ s A B, Jx s A → Grows A B → Jx s B) →
    (∀ pre x W0 W1, J pre W0 → Spares (own pre) W0 W1 → Gd pre x W0 W1 → YieldAt Fence.wide n P l (encs x) W1 fun e W' =>
      (e = .returned (.bool true) ∧ J (pre ++ [x]) W' ∧ W1.heap.size ≤ W'.heap.size ∧ ∀ k, k < W1.heap.size → Safe k ∨ W0.heap.size ≤ k → W'.heap[k]? = W1.heap[k]?) ∨ (e = .returned (.bool false) ∧ Jx (pre ++ [x]) W')) →
    J [] W →
    CallsIn Fence.wide n P g (#[.func (.yield l) #[] #[]] ++ lb) W fun e W' => (∃ v, e = .returned v) ∧ ((∃ xs A, J xs A ∧ Spares (own xs) A W' ∧ S xs A W') ∨ (∃ pre, Sp pre ∧ Jx pre W'))

theorem range_lawM {α : Type} {P : Program} {n : Nat} {g : Operand} {ps : Array Tmp} {assign body : Code} {Q : Exit → Act → World → Prop} {a : Act} {w : World}
    {gf : Nat} {lb : Array Value} (hg : a.eval g = .func (.func gf) #[] lb) (eg : ∀ args w, (callFunc gf args).run P w = .ok (.enter gf args) w)
    {encs : α → Array Value} {Gd : List α → α → World → World → Prop} {Safe : Nat → Prop} {own : List α → Nat → Prop} {S : List α → World → World → Prop} {Sp : List α → Prop} (hseq : GivesM P (n - 1) gf lb encs own Gd Safe S Sp w) (hown : ∀ s k, own s k → k < w.heap.size) (hps : ∀ x, (encs x).size = ps.size)
    (n₀ m : Nat) (hnm : n₀ ≤ m) (hm : m ≤ w.heap.size) (hsafe : ∀ k, Safe k → k < n₀ ∨ (m ≤ k ∧ k < w.heap.size))
    (I Ix : List α → World → Prop) (hI : ∀ s A B, I s A → Cellwise w.heap.size A B → I s B) (hIo : ∀ s A B, I s A → Spares (own s) A B → I s B) (hIx : ∀ s A B, Ix s A → Cellwise w.heap.size A B → Ix s B) (h0 : I [] w)
    (hround : ∀ (l : Nat) (pre : List α) (x : α) (W0 W : World), w.heap.size ≤ W0.heap.size → I pre W0 → Spares (own pre) W0 W → Gd pre x W0 W →
      assign.wpIn (Fence.wide.inRound l) (n - 1) P (Exit.then (fun a₁ Wa => Grows W Wa ∧ ∀ Wb, Cellwise w.heap.size Wa Wb →
        body.wpIn (Fence.wide.inRound l) (n - 1) P (roundLeft (Mine n₀ m w.heap.size W0) I Ix (pre ++ [x]) Wb) a₁ Wb) (fun _ _ _ => False)) { tmps := (ps.zip (encs x)).foldl (fun t (p, v) => t.setIfInBounds p v) a.tmps, defers := [] } W)
    (hdone : ∀ (D : Nat) (xs : List α) (A W0 W : World), w.heap.size ≤ D → I xs A → Spares (own xs) A W0 → S xs A W0 → Cellwise w.heap.size W0 W → I xs W → W.heap[D]? = some (.deferred (some [])) → Q .normal { a with defers := { target := .collected D, args := #[] } :: a.defers } W)
    (hstop : ∀ (D : Nat) (pre : List α) (W : World), w.heap.size ≤ D → Sp pre → Ix pre W → W.heap[D]? = some (.deferred (some [])) → Code.ret.wpIn Fence.wide n P Q { a with defers := { target := .collected D, args := #[] } :: a.defers } W) :
    (Code.rangeFunc g ps assign body).wpIn Fence.wide n P Q a w := by
  refine wpIn_rangeFunc fun fn _ => ?_
  rw [show Fence.wide.round = none from rfl]
  obtain ⟨rec, hrec⟩ : ∃ rec : LoopState → Option Code → Loop, rec = fun st pe => { state := st, pending := pe, fn, tmps := a.tmps, params := ps, assign, body, defers := w.heap.size } := ⟨_, rfl⟩
  have hrun := run_enterLoop_outer (P := P) (w := w) fn a.tmps ps assign body
  rw [show ({ state := .ready, pending := none, fn, tmps := a.tmps, params := ps, assign, body, defers := w.heap.size } : Loop) = rec .ready none by rw [hrec]] at hrun
  have hD0 : ((w.alloc (.deferred (some []))).alloc (.loop (rec .ready none))).heap[w.heap.size]? = some (.deferred (some [])) := (Below.heap_alloc _ _ _ (by simp)).trans (World.alloc_heap_new w _)
  have hL0 : ((w.alloc (.deferred (some []))).alloc (.loop (rec .ready none))).heap[w.heap.size + 1]? = some (.loop (rec .ready none)) := by
    have := World.alloc_heap_new (w.alloc (.deferred (some []))) (.loop (rec .ready none)); rwa [World.size_alloc] at this
  have hG0 : Grows w ((w.alloc (.deferred (some []))).alloc (.loop (rec .ready none))) := ((Below.refl _ w).alloc (Nat.le_refl _) _).alloc (by simp) _
  generalize (w.alloc (.deferred (some []))).alloc (.loop (rec .ready none)) = V at *
  refine ⟨w.heap.size + 1, _, V, { target := .fn (.func gf) lb, args := #[.func (.yield (w.heap.size + 1)) #[] #[]] }, V, gf, #[.func (.yield (w.heap.size + 1)) #[] #[]] ++ lb, V, hrun, ?_, fun _ _ => trivial, ?_, (fun h => by cases h), ?_⟩
  · simp only [resolve, hg]
    simp [go_sem]
  · simp [invoke, go_sem, eg]
  have stay : ∀ {A B : World} {k : Nat} {o : Obj}, A.heap[k]? = some o → Grows A B → B.heap[k]? = some o := fun hk hb => (hb.block _ (Array.getElem?_eq_some_iff.1 hk).1).trans hk
  have stay' : ∀ {s : List α} {A B : World} {k : Nat} {o : Obj}, w.heap.size ≤ k → A.heap[k]? = some o → Spares (own s) A B → B.heap[k]? = some o := fun hk0 hk hb => (hb.same _ (Array.getElem?_eq_some_iff.1 hk).1 (fun h => by have := hown _ _ h; omega)).trans hk
  -- what an iterator is told of: the caller's own, the loop's record, the block for deferred calls
  refine (hseq (w.heap.size + 1) (fun s W => I s W ∧ W.heap[w.heap.size + 1]? = some (.loop (rec .ready none)) ∧ W.heap[w.heap.size]? = some (.deferred (some [])))
    (fun s W => Ix s W ∧ W.heap[w.heap.size + 1]? = some (.loop (rec .done (some .ret))) ∧ W.heap[w.heap.size]? = some (.deferred (some []))) V hG0
    (fun s A B h hb => ⟨hIo s A B h.1 hb, stay' (by omega) h.2.1 hb, stay' (Nat.le_refl _) h.2.2 hb⟩) (fun s A B h hb => ⟨hIx s A B h.1 (.grows hb), stay h.2.1 hb, stay h.2.2 hb⟩) ?_ ⟨hI [] w V h0 (.grows hG0), hL0, hD0⟩).mono ?_
  · rintro pre x W0 W ⟨hi, hl, hd⟩ hb hgd
    have hl1 := stay' (by omega) hl hb
    have hd1 := stay' (Nat.le_refl _) hd hb
    have hsz : w.heap.size + 1 < W0.heap.size := (Array.getElem?_eq_some_iff.1 hl).1
    have hy := run_yield (P := P) (args := encs x) hl1 (by rw [hrec]; exact hps x)
    rw [hrec] at hy
    refine ⟨fn, _, assign, body, hy, roundIn_of_wpIn trivial (wpIn_mono (hround _ pre x W0 W (by omega) hi hb hgd) ?_)⟩
    intro e a₁ Wa he
    cases e <;> first | exact he.elim | skip
    obtain ⟨hga, hbody⟩ := he
    have hl2 := stay hl1 hga
    have hd2 := stay hd1 hga
    refine ⟨_, run_beginRound hl2 (by rw [hrec]), ?_⟩
    have hsz2 : w.heap.size + 1 < Wa.heap.size := (Array.getElem?_eq_some_iff.1 hl2).1
    have hl3 : (Wa.putObj (w.heap.size + 1) (.loop { rec .ready none with state := .busy })).heap[w.heap.size + 1]? = some (.loop { rec .ready none with state := .busy }) := World.putObj_heap_same hsz2
    have hd3 : (Wa.putObj (w.heap.size + 1) (.loop { rec .ready none with state := .busy })).heap[w.heap.size]? = some (.deferred (some [])) := (World.putObj_heap_other (by omega)).trans hd2
    have hcw : Cellwise w.heap.size Wa (Wa.putObj (w.heap.size + 1) (.loop { rec .ready none with state := .busy })) := .putObj hl2 rfl (by omega) _
    have hother : ∀ k, k ≠ w.heap.size + 1 → (Wa.putObj (w.heap.size + 1) (.loop { rec .ready none with state := .busy })).heap[k]? = Wa.heap[k]? := fun k hk => World.putObj_heap_other hk
    have hbd := hbody _ hcw
    have hszb : (Wa.putObj (w.heap.size + 1) (.loop { rec .ready none with state := .busy })).heap.size = Wa.heap.size := by simp
    generalize Wa.putObj (w.heap.size + 1) (.loop { rec .ready none with state := .busy }) = Wb at *
    refine wpIn_mono hbd ?_
    -- what is no one's own stays
    have keepL : ∀ {W' : World}, Spares (Mine n₀ m w.heap.size W0) Wb W' → W'.heap[w.heap.size + 1]? = some (.loop { rec .ready none with state := .busy }) ∧ W'.heap[w.heap.size]? = some (.deferred (some [])) := fun hs =>
      ⟨(hs.same _ (Array.getElem?_eq_some_iff.1 hl3).1 (fun h => by
        rcases h with h | ⟨_, cs, t, fr, h⟩
        · omega
        · rw [hl] at h; cases h)).trans hl3,
       (hs.same _ (Array.getElem?_eq_some_iff.1 hd3).1 (fun h => by
        rcases h with h | ⟨_, cs, t, fr, h⟩
        · omega
        · rw [hd] at h; cases h)).trans hd3⟩
    have fin : ∀ (jump : Option Code) (W' : World), Spares (Mine n₀ m w.heap.size W0) Wb W' →
        (Instr.endRound (w.heap.size + 1) jump).run P W' = .ok (.bool jump.isNone) (W'.putObj (w.heap.size + 1) (.loop (rec (if jump.isNone then .ready else .done) jump))) ∧
        Cellwise w.heap.size W' (W'.putObj (w.heap.size + 1) (.loop (rec (if jump.isNone then .ready else .done) jump))) ∧
        (W'.putObj (w.heap.size + 1) (.loop (rec (if jump.isNone then .ready else .done) jump))).heap[w.heap.size + 1]? = some (.loop (rec (if jump.isNone then .ready else .done) jump)) ∧
        (W'.putObj (w.heap.size + 1) (.loop (rec (if jump.isNone then .ready else .done) jump))).heap[w.heap.size]? = some (.deferred (some [])) := fun jump W' hs => by
      obtain ⟨k1, k2⟩ := keepL hs
      have hr := run_endRound (P := P) jump k1
      rw [hrec] at hr k1 ⊢
      exact ⟨hr, .putObj k1 rfl (by omega) _, World.putObj_heap_same (Array.getElem?_eq_some_iff.1 k1).1, (World.putObj_heap_other (by omega)).trans k2⟩
    intro e a₂ W' hp
    cases e <;> first | exact hp.elim | skip
    · -- off its end
      obtain ⟨hs, hi'⟩ := hp
      obtain ⟨hr, hc, k1, k2⟩ := fin none W' hs
      refine ⟨_, _, hr, .inl ⟨rfl, ⟨hI _ _ _ hi' hc, k1, k2⟩, ?_, ?_⟩⟩
      · rw [World.putObj_size]
        exact Nat.le_trans hga.size (Nat.le_trans (by omega) hs.size)
      · intro k hk hcase
        have hk1 : k ≠ w.heap.size + 1 := by
          rcases hcase with h | h
          · have := hsafe k h; omega
          · omega
        have hkb : k < Wb.heap.size := by have := hga.size; omega
        rw [World.putObj_heap_other hk1, hs.same k hkb, hother k hk1, hga.block k hk]
        rintro (h | ⟨h, cs, t, fr, hh⟩)
        · rcases hcase with hc | hc
          · have := hsafe k hc; omega
          · omega
        · rcases hcase with hc | hc
          · have := hsafe k hc; omega
          · have := (Array.getElem?_eq_some_iff.1 hh).1; omega
    · -- by a return
      obtain ⟨hs, hi'⟩ := hp
      obtain ⟨hr, hc, k1, k2⟩ := fin (some .ret) W' hs
      exact ⟨_, _, hr, .inr ⟨rfl, hIx _ _ _ hi' hc, k1, k2⟩⟩
  · rintro e W2 ⟨⟨v, rfl⟩, (⟨xs, A, ⟨hi, hl, hd⟩, hsp, hS⟩ | ⟨pre, hSp, hi, hl, hd⟩)⟩
    · have hl := stay' (by omega) hl hsp
      have hd := stay' (Nat.le_refl _) hd hsp
      have hr : (Instr.endLoop (w.heap.size + 1)).run P W2 = .ok none (W2.putObj (w.heap.size + 1) (.loop { rec .ready none with state := .exhausted })) := by
        have hr := run_endLoop (P := P) hl (by rw [hrec]; simp)
        rw [hrec] at hr ⊢
        exact hr
      have hcw : Cellwise w.heap.size W2 (W2.putObj (w.heap.size + 1) (.loop { rec .ready none with state := .exhausted })) := .putObj hl rfl (by omega) _
      refine ⟨none, _, hr, hdone _ xs A W2 _ (Nat.le_refl _) hi hsp hS hcw (hI _ _ _ (hIo _ _ _ hi hsp) hcw) ((World.putObj_heap_other (by omega)).trans hd)⟩
    · have hr : (Instr.endLoop (w.heap.size + 1)).run P W2 = .ok (some .ret) (W2.putObj (w.heap.size + 1) (.loop { rec .done (some .ret) with state := .exhausted })) := by
        have hr := run_endLoop (P := P) hl (by rw [hrec]; simp)
        rw [hrec] at hr ⊢
        exact hr
      refine ⟨some .ret, _, hr, hstop _ pre _ (Nat.le_refl _) hSp (hIx _ _ _ hi (.putObj hl rfl (by omega) _)) ((World.putObj_heap_other (by omega)).trans hd)⟩
end Go.Proofs.Ytlcpbkbojjpfaaa
