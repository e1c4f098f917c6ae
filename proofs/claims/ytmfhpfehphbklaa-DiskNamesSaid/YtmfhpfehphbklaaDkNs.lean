/-
  Names behind each thing that was done to them: as lists, and in memory.
-/
import Derived.Test.YtmfhpfehphbklaaDkIn
import Derived.Test.YtmfhpfehphbklaaDkDir
import Derived.Test.YtmfhpfehphbklaaFactsTail
import Derived.Test.YtmfhpfehphbklaaWalkBits
namespace Go.Proofs.Ytmfhpfehphbklaa
open Go.RowKit
set_option linter.unusedVariables false
set_option linter.unusedSimpArgs false

/-! Plainly. -/
def wereL (m : Dk) : List (List Nm) := (List.range (m.pend.length + 1)).map fun i => (redo (m.pend.take i) m.kept).map (·.1)
theorem wereL_length (m : Dk) : (wereL m).length = m.pend.length + 1 := by simp [wereL]
theorem wereL_none {m : Dk} (hp : m.pend = []) (hk : m.kept = m.names) : wereL m = [m.names.map (·.1)] := by
  unfold wereL
  rw [hp, hk]
  rfl
theorem redo_snoc (cs : List Ch) (c : Ch) (l : Dir) : redo (cs ++ [c]) l = c.on (redo cs l) := by
  unfold redo
  rw [List.foldl_append]
  rfl
theorem wereL_one {m m' : Dk} {c : Ch} (hn : m.names = redo m.pend m.kept) (hp : m'.pend = m.pend ++ [c]) (hk : m'.kept = m.kept) (hn' : m'.names = c.on m.names) : wereL m' = wereL m ++ [m'.names.map (·.1)] ∧ m'.names = redo m'.pend m'.kept := by
  have h2 : m'.names = redo m'.pend m'.kept := by rw [hn', hp, hk, redo_snoc, hn]
  refine ⟨?_, h2⟩
  unfold wereL
  rw [hp, hk, List.length_append, List.length_singleton, List.range_succ, List.map_append]
  congr 1
  · refine List.map_congr_left fun i hi => ?_
    rw [List.mem_range] at hi
    rw [List.take_append_of_le_length (by omega)]
  · rw [List.map_cons, List.map_nil, h2, hp, hk, List.take_of_length_le (by simp)]
theorem wereL_same {m m' : Dk} (hp : m'.pend = m.pend) (hk : m'.kept = m.kept) : wereL m' = wereL m := by unfold wereL; rw [hp, hk]
theorem wereL_get (m : Dk) {k : Nat} (hk : k ≤ m.pend.length) : (wereL m)[k]? = some ((redo (m.pend.take k) m.kept).map (·.1)) := by
  unfold wereL
  rw [List.getElem?_map, List.getElem?_range (by omega)]
  rfl
theorem boot_names (m : Dk) (dirs : Nat) (l : List Int) : (wereL m)[min dirs m.pend.length]? = some ((m.boot dirs l).names.map (·.1)) := by
  rw [wereL_get _ (Nat.min_le_right _ _)]
  show _ = some ((redo (m.pend.take (min (max (dirs : Int) 0) (m.pend.length : Int)).toNat) m.kept).map (·.1))
  rw [show (min (max (dirs : Int) 0) (m.pend.length : Int)).toNat = min dirs m.pend.length by omega]

/-- What one call does to names: nothing, or one thing. -/
structure NSame (m m' : Dk) : Prop where
  done : m'.done = m.done
  names : m'.names = m.names
  kept : m'.kept = m.kept
  pend : m'.pend = m.pend
def NOne (m m' : Dk) : Prop := m'.done = m.done + 1 ∧ ∃ c, m'.pend = m.pend ++ [c] ∧ m'.kept = m.kept ∧ m'.names = c.on m.names
def NKept (m m' : Dk) : Prop := m'.done = m.done + 1 ∧ m'.pend = [] ∧ m'.kept = redo m.pend m.kept ∧ m'.names = m.names
section
variable {m : Dk}
theorem NSame.refl (m : Dk) : NSame m m := ⟨rfl, rfl, rfl, rfl⟩
theorem n_thing (hd : 0 ≤ m.done ∧ m.done ≤ 1000000) {does : Dk → Dk} (h : (does m.sooner).done = m.done ∧ ∃ c, (does m.sooner).pend = m.pend ++ [c] ∧ (does m.sooner).kept = m.kept ∧ (does m.sooner).names = c.on m.names) :
    NSame m (m.thing does).1 ∨ NOne m (m.thing does).1 := by
  unfold Dk.thing
  split
  · exact .inl (.refl _)
  · split
    · exact .inl ⟨rfl, rfl, rfl, rfl⟩
    · split
      · exact .inl ⟨rfl, rfl, rfl, rfl⟩
      · refine .inr ⟨?_, h.2⟩
        show wrap64 ((does m.sooner).done + 1) = _
        rw [h.1, IntWalk.wrap64_in _ (by omega)]
theorem n_create (hd : 0 ≤ m.done ∧ m.done ≤ 1000000) (n : Nm) : NSame m (m.create n).1 ∨ NOne m (m.create n).1 := by
  unfold Dk.create
  split
  · exact .inl (.refl _)
  · split
    · exact .inl (.refl _)
    · split
      · exact .inl (.refl _)
      · split
        · exact .inl (.refl _)
        · exact n_thing hd ⟨rfl, _, rfl, rfl, rfl⟩
theorem n_rename (hd : 0 ≤ m.done ∧ m.done ≤ 1000000) (n to : Nm) : NSame m (m.rename n to).1 ∨ NOne m (m.rename n to).1 := by
  unfold Dk.rename
  split
  · exact .inl (.refl _)
  · split
    · exact .inl (.refl _)
    · split
      · exact .inl (.refl _)
      · exact n_thing hd ⟨rfl, _, rfl, rfl, rfl⟩
theorem n_remove (hd : 0 ≤ m.done ∧ m.done ≤ 1000000) (n : Nm) : NSame m (m.remove n).1 ∨ NOne m (m.remove n).1 := by
  unfold Dk.remove
  split
  · exact .inl (.refl _)
  · split
    · exact .inl (.refl _)
    · exact n_thing hd ⟨rfl, _, rfl, rfl, rfl⟩
theorem n_syncDir (hd : 0 ≤ m.done ∧ m.done ≤ 1000000) : NSame m m.syncDir.1 ∨ NKept m m.syncDir.1 := by
  unfold Dk.syncDir Dk.thing
  split
  · exact .inl (.refl _)
  · split
    · exact .inl ⟨rfl, rfl, rfl, rfl⟩
    · split
      · exact .inl ⟨rfl, rfl, rfl, rfl⟩
      · refine .inr ⟨?_, rfl, ?_, rfl⟩
        · show wrap64 (m.done + 1) = _
          rw [IntWalk.wrap64_in _ (by omega)]
        · show redo (m.pend.take m.pend.length) m.kept = _
          rw [List.take_length]
end

/-! In memory. -/
/-- A slice of slices of names, all of the law's own. -/
def Wr (w : World) (own : Nat → Prop) (B : Nat) (v : Value) (L : List (List Nm)) : Prop :=
  ∃ us : List Value, w.ownsRow B 57 1 v L.length us ∧ (∀ k, v.ownBlock = some k → own k) ∧ ∀ (i : Nat) u ns, us[i]? = some u → L[i]? = some ns → w.ownsRow B 9 1 u ns.length (ns.map strB) ∧ ∀ k, u.ownBlock = some k → own k
section
variable {w w' : World} {own own' : Nat → Prop} {B : Nat} {v : Value} {L : List (List Nm)}
theorem Wr.stay (h : Wr w own B v L) (hs : ∀ k, own k → w'.heap[k]? = w.heap[k]?) : Wr w' own B v L := by
  obtain ⟨us, h1, h2, h3⟩ := h
  exact ⟨us, row_same h1 fun k hk => hs k (h2 k hk), h2, fun i u ns hu hn => ⟨row_same (h3 i u ns hu hn).1 fun k hk => hs k ((h3 i u ns hu hn).2 k hk), (h3 i u ns hu hn).2⟩⟩
theorem Wr.wider (h : Wr w own B v L) (ho : ∀ k, own k → own' k) : Wr w own' B v L := by
  obtain ⟨us, h1, h2, h3⟩ := h
  exact ⟨us, h1, fun k hk => ho k (h2 k hk), fun i u ns hu hn => ⟨(h3 i u ns hu hn).1, fun k hk => ho k ((h3 i u ns hu hn).2 k hk)⟩⟩
theorem Wr.lit {u : Value} {ns : List Nm} (hr : w.ownsRow B 9 1 u ns.length (ns.map strB)) (ho : ∀ k, u.ownBlock = some k → own k) (hB : B ≤ w.heap.size) (hw : own w.heap.size) : Wr (w.alloc (.cells #[u] 57)) own B (.slice (some ⟨w.heap.size, 0, none⟩) 1 1) [ns] := by
  refine ⟨[u], World.ownsRow_lit (size := 1) (e := 57) (base := B) w #[u] 1 hB (by unfold maxLen; omega) rfl, fun k hk => ?_, fun i x ys hx hy => ?_⟩
  · simp only [Value.ownBlock, Option.some.injEq] at hk
    exact hk ▸ hw
  · match i with
    | 0 =>
      simp only [List.getElem?_cons_zero, Option.some.injEq] at hx hy
      subst hx hy
      exact ⟨owned_grow hr (grows_alloc _ _), ho⟩
    | j + 1 => simp at hx
theorem Wr.push {u : Value} {ns : List Nm} {v' : Value} (h : Wr w own B v L) (hr : w.ownsRow B 9 1 u ns.length (ns.map strB)) (ho : ∀ k, u.ownBlock = some k → own k)
    (us : List Value) (h1 : w.ownsRow B 57 1 v L.length us) (h3 : ∀ (i : Nat) u ns, us[i]? = some u → L[i]? = some ns → w.ownsRow B 9 1 u ns.length (ns.map strB) ∧ ∀ k, u.ownBlock = some k → own k)
    (hv' : w'.ownsRow B 57 1 v' (L.length + 1) (us ++ [u])) (hg : w.grownBy w' v.ownBlock) (hat : ∀ k, v'.ownBlock = some k → own' k) (ho' : ∀ k, own k → own' k) : Wr w' own' B v' (L ++ [ns]) := by
  have un : ∀ {x : Value} {ys : List Nm}, w.ownsRow B 9 1 x ys.length (ys.map strB) → w'.ownsRow B 9 1 x ys.length (ys.map strB) := fun {x ys} hx => row_same hx fun k hk => by
    refine hg.block k (hx.lt k hk).2 fun e => ?_
    obtain ⟨c1, e1⟩ := row_block hx hk
    obtain ⟨c2, e2⟩ := row_block h1 e.symm
    rw [e1] at e2
    injection e2 with e2
    injection e2 with _ e2 _
    cases e2
  refine ⟨us ++ [u], by rw [List.length_append]; exact hv', hat, fun i x ys hx hy => ?_⟩
  have hl : us.length = L.length := by have := h1.1; omega
  rcases Nat.lt_or_ge i L.length with hi | hi
  · rw [List.getElem?_append_left (by omega)] at hx
    rw [List.getElem?_append_left hi] at hy
    have := h3 i x ys hx hy
    exact ⟨un this.1, fun k hk => ho' k (this.2 k hk)⟩
  · rw [List.getElem?_append_right (by omega)] at hx
    rw [List.getElem?_append_right hi] at hy
    have e : i - L.length = 0 := by
      rcases Nat.eq_zero_or_pos (i - L.length) with h0 | h0
      · exact h0
      · rw [List.getElem?_eq_none (by rw [List.length_singleton]; omega)] at hy; cases hy
    rw [e] at hy
    rw [hl, e] at hx
    simp only [List.getElem?_cons_zero, Option.some.injEq] at hx hy
    subst hx hy
    exact ⟨un hr, fun k hk => ho' k (ho k hk)⟩
end

/-- A list of names, wherever. -/
def nmFact (ns : List Nm) : Fact Grows := ⟨Option Addr × Nat, (none, 0), fun p => .slice p.1 ns.length p.2, fun p w => Row w w.heap.size p.1 ns.length (ns.map strB), fun _ _ _ h g => g.row h⟩
theorem f_names {P : Program} {ops : Array Oper} {W : World} {Q : Act → World → Prop} {o : Oper} {rest : List Oper} {fs : List (Fact Grows)} {ks : Known} {a : Act} (ns : List Nm) (f : FuncId) (args : Array Value) (hw : Region.wanted o (yielded ops a.tmps) = true) (h1 : ∀ w, Grows W w → (execOp a.eval o).run P w = .ok (.enter f args) w)
    (hc : ∀ w, Grows W w → ks.for (o.looksAt ops) w → Calls P f args w fun e w' => ∃ A c, e = .returned (.slice A ns.length c) ∧ Row w' w'.heap.size A ns.length (ns.map strB) ∧ Grows w w')
    (h2 : ∀ A c, wpF P ops Grows W Q rest fs ((o.dst, fun w => Row w w.heap.size A ns.length (ns.map strB)) :: ks) (a.put o.dst (.slice A ns.length c))) :
    wpF P ops Grows W Q (o :: rest) (nmFact ns :: fs) ks a := by
  unfold wpF fStep
  rw [if_pos hw]
  refine ⟨fun w hW hk => ?_, fun x => h2 x.1 x.2⟩
  unfold gives
  rw [h1 w hW]
  exact (hc w hW hk).mono fun e w' ⟨A, c, he, hs, hb⟩ => ⟨hb, (A, c), he, hs⟩
/-- The disk, and beside it the names that were. -/
def NS (B : Nat) (w0 w : World) (d : Nat) (m : Dk) (v : Value) (L : List (List Nm)) : Prop := ∃ own, DkIn B w0 w d own m ∧ (∀ k, own k → B ≤ k) ∧ Wr w own B v L
/-- .. and one list of names more. -/
def NS1 (B : Nat) (w0 w : World) (d : Nat) (m : Dk) (v : Value) (L : List (List Nm)) (u : Value) (ns : List Nm) : Prop :=
  ∃ own, DkIn B w0 w d own m ∧ (∀ k, own k → B ≤ k) ∧ Wr w own B v L ∧ w.ownsRow B 9 1 u ns.length (ns.map strB) ∧ ∀ k, u.ownBlock = some k → own k
section
variable {B d : Nat} {w0 w w' : World} {m m' : Dk} {v : Value} {L : List (List Nm)}
theorem DkIn.otherMore {out : Nat → Prop} (h : DkIn B w0 w d out m) {oth : Nat → Prop} (hs : Spares oth w w') (ho : ∀ k, oth k → k < w.heap.size → out k) (hB : ∀ k, oth k → B ≤ k) : DkIn B w0 w' d (fun k => out k ∨ (w.heap.size ≤ k ∧ k < w'.heap.size)) m := by
  obtain ⟨own, G, h1, h2, h3, h4, h5, h6⟩ := h
  refine ⟨own, G, h1.spare hs fun k hk e => ?_, h2, h3, h4.trans (hs.below h5 fun k hk e => by have := hB k e; omega), Nat.le_trans h5 hs.size, ?_⟩
  · have := h6 k (ho k e (h1.lt hk))
    rcases hk with hk | hk
    · exact this.2.1 hk
    · exact this.2.2 hk
  · rintro k (hk | hk)
    · exact ⟨Nat.lt_of_lt_of_le (h6 k hk).1 hs.size, (h6 k hk).2⟩
    · exact ⟨hk.2, fun e => by have := h1.top.lt; omega, fun e => by have := h1.rest.lt k e; omega⟩
theorem NS.low (h : NS B w0 w d m v L) : Below B w0 w := by obtain ⟨_, h, _⟩ := h; exact h.low
theorem NS.grow (h : NS B w0 w d m v L) (hg : Grows w w') : NS B w0 w' d m v L := by
  obtain ⟨own, h1, h2, h3⟩ := h
  exact ⟨own, h1.grow hg, h2, h3.stay fun k hk => hg.block k (h1.lt hk)⟩
theorem NS.call {f : FuncId} {args : Array Value} {ev : Ending} (h : NS B w0 w d m v L) (hc : ∀ own, DkIn B w0 w d own m → Calls Try.prog f args w fun e w' => e = ev ∧ DkIn B w0 w' d own m' ∧ Stays B own w w') :
    Calls Try.prog f args w fun e w' => e = ev ∧ NS B w0 w' d m' v L := by
  obtain ⟨own, h1, h2, h3⟩ := h
  refine (hc own h1).mono ?_
  rintro e w' ⟨rfl, k1, k2⟩
  exact ⟨rfl, own, k1, h2, h3.stay fun k hk => k2.same k (h1.lt hk) fun e => e.2 hk⟩
/-- The same, behind a block that was laid ahead of the call: it stays. -/
theorem NS.call2 {f : FuncId} {args : Array Value} {ev : Ending} {cs : Array Value} {t : TypeId} (h : NS B w0 w d m v L) (hc : ∀ own, DkIn B w0 (w.alloc (.cells cs t)) d own m → Calls Try.prog f args (w.alloc (.cells cs t)) fun e w' => e = ev ∧ DkIn B w0 w' d own m' ∧ Stays B own (w.alloc (.cells cs t)) w') :
    Calls Try.prog f args (w.alloc (.cells cs t)) fun e w' => e = ev ∧ NS B w0 w' d m' v L ∧ Whole w' w.heap.size t cs := by
  obtain ⟨own, h1, h2, h3⟩ := h
  have hg := grows_alloc w (.cells cs t)
  have h1' := h1.more hg
  have h3' : Wr (w.alloc (.cells cs t)) (fun k => own k ∨ (w.heap.size ≤ k ∧ k < (w.alloc (.cells cs t)).heap.size)) B v L := (h3.stay fun k hk => hg.block k (h1.lt hk)).wider fun k hk => .inl hk
  refine (hc _ h1').mono ?_
  rintro e w' ⟨rfl, k1, k2⟩
  refine ⟨rfl, ⟨_, k1, fun k hk => hk.elim (h2 k) fun e => Nat.le_trans h1.size e.1, h3'.stay fun k hk => k2.same k (h1'.lt hk) fun e => e.2 hk⟩, ?_⟩
  have hw := Whole.made w t cs
  exact hw.same (k2.same _ hw.lt fun e => e.2 (.inr ⟨Nat.le_refl _, hw.lt⟩))
theorem NS.done (h : NS B w0 w d m v L) : Calls Try.prog 35 #[.pointer (some ⟨d, 0, none⟩)] w fun e w' => e = .returned (.int .i64 m.done) ∧ w = w' := by
  obtain ⟨own, h1, _⟩ := h
  exact done_in h1
theorem NS.list {K : Nat} (h : NS B w0 w d m v L) (ok : DkOk K m) (hK : K ≤ 1000000000) : Calls Try.prog 34 #[.pointer (some ⟨d, 0, none⟩)] w fun e w' =>
    ∃ A c, e = .returned (.slice A m.names.length c) ∧ NS1 B w0 w' d m v L (.slice A m.names.length c) (m.names.map (·.1)) := by
  obtain ⟨own, h1, h2, h3⟩ := h
  refine (list_in h1 ok hK).mono ?_
  rintro e w' ⟨A, c, rfl, hr, hg⟩
  refine ⟨A, c, rfl, fun k => own k ∨ (w.heap.size ≤ k ∧ k < w'.heap.size), h1.more hg, fun k hk => hk.elim (h2 k) fun e => Nat.le_trans h1.size e.1, (h3.stay fun k hk => hg.block k (h1.lt hk)).wider fun k hk => .inl hk, ?_, fun k hk => .inr (hr.lt k hk)⟩
  rw [List.length_map]
  exact owned_from hr h1.size
theorem NS.names {K : Nat} (h : NS B w0 w d m v L) (ok : DkOk K m) (hK : K ≤ 1000000000) : Calls Try.prog 34 #[.pointer (some ⟨d, 0, none⟩)] w fun e w' =>
    ∃ A c, e = .returned (.slice A (m.names.map (·.1)).length c) ∧ Row w' w'.heap.size A (m.names.map (·.1)).length ((m.names.map (·.1)).map strB) ∧ Grows w w' := by
  obtain ⟨own, h1, h2, h3⟩ := h
  refine (list_in h1 ok hK).mono ?_
  rintro e w' ⟨A, c, rfl, hr, hg⟩
  rw [List.length_map]
  exact ⟨A, c, rfl, Row.owned hr, hg⟩
theorem NS1.low {u : Value} {ns : List Nm} (h : NS1 B w0 w d m v L u ns) : Below B w0 w := by obtain ⟨_, h, _⟩ := h; exact h.low
/-- A new slice of that one alone. -/
theorem NS1.lit {u : Value} {ns : List Nm} (h : NS1 B w0 w d m v L u ns) : NS B w0 (w.alloc (.cells #[u] 57)) d m (.slice (some ⟨w.heap.size, 0, none⟩) 1 1) [ns] := by
  obtain ⟨own, h1, h2, _, h4, h5⟩ := h
  exact ⟨_, h1.more (grows_alloc w _), fun k hk => hk.elim (h2 k) fun e => Nat.le_trans h1.size e.1, Wr.lit h4 (fun k hk => .inl (h5 k hk)) h1.size (.inr ⟨Nat.le_refl _, by simp⟩)⟩
/-- Appended. -/
theorem NS1.push {u : Value} {ns : List Nm} (h : NS1 B w0 w d m v L u ns) : ∃ us, (w.alloc (.cells #[u] 57)).ownsRow B 57 1 v L.length us ∧ B ≤ w.heap.size ∧ ∀ A' c' w', w'.ownsRow B 57 1 (.slice A' (L.length + 1) c') (L.length + 1) (us ++ [u]) → (w.alloc (.cells #[u] 57)).grownBy w' v.ownBlock →
    ((Value.slice A' (L.length + 1) c').ownBlock = v.ownBlock ∨ (Value.slice A' (L.length + 1) c').ownBlock = some (w.alloc (.cells #[u] 57)).heap.size) → NS B w0 w' d m (.slice A' (L.length + 1) c') (L ++ [ns]) := by
  obtain ⟨own, h1, h2, h3, h4, h5⟩ := h
  have ha := h1.more (grows_alloc w (.cells #[u] 57))
  have h3' : Wr (w.alloc (.cells #[u] 57)) own B v L := h3.stay fun k hk => (grows_alloc w (.cells #[u] 57)).block k (h1.lt hk)
  have h4' := owned_grow h4 (grows_alloc w (.cells #[u] 57))
  obtain ⟨us, k1, k2, k3⟩ := h3'
  refine ⟨us, k1, h1.size, fun A' c' w' r1 r2 r3 => ?_⟩
  have hsp : Spares (fun k => v.ownBlock = some k) (w.alloc (.cells #[u] 57)) w' := (Spares.refl _ _).grown r2 fun g hg => hg
  have hb := ha.otherMore hsp (fun k hk _ => .inl (k2 k hk)) fun k hk => h2 k (k2 k hk)
  have hlt : ∀ k, (Value.slice A' (L.length + 1) c').ownBlock = some k → k < w'.heap.size := fun k hk => (r1.lt k hk).2
  refine ⟨_, hb, fun k hk => ?_, Wr.push ⟨us, k1, k2, k3⟩ h4' h5 us k1 k3 r1 r2 (fun k hk => ?_) (fun k hk => .inl (.inl hk))⟩
  · rcases hk with (hk | hk) | hk
    · exact h2 k hk
    · exact Nat.le_trans h1.size hk.1
    · exact Nat.le_trans (Nat.le_trans h1.size (le_alloc _ _)) hk.1
  · rcases r3 with r3 | r3
    · exact .inl (.inl (k2 k (r3 ▸ hk)))
    · have e : (w.alloc (.cells #[u] 57)).heap.size = k := by
        rw [r3] at hk
        injection hk
      exact .inr ⟨by omega, hlt k hk⟩
theorem NS.boot {K : Nat} (h : NS B w0 w d m v L) (ok : DkOk K m) (hK : K ≤ 1000000000) (dirs : Int) {l : List Int} {A : Option Addr} {n c : Nat} (hI : Ints w A n c l) (hl : ∀ x ∈ l, -9223372036854775808 ≤ x ∧ x ≤ 9223372036854775807) (hoff : ∀ ad, A = some ad → l ≠ [] → ad.block < B) :
    Calls Try.prog 31 #[.pointer (some ⟨d, 0, none⟩), .int .i64 dirs, .slice A n c] w fun e w' => e = .returned (.tuple #[]) ∧ NS B w0 w' d (m.boot dirs l) v L :=
  h.call fun own h1 => boot_in dirs h1 ok hK hI hl fun ad e hne => .inl (hoff ad e hne)
/-- One of the lists. -/
theorem NS.at (h : NS B w0 w d m v L) {k : Nat} {ns : List Nm} (hk : L[k]? = some ns) : ∃ g wc u A c, v = .slice (some ⟨g, 0, none⟩) L.length wc ∧ u = .slice A ns.length c ∧ (∀ w', Grows w w' → w'.cell? ⟨g, k, none⟩ = some u) ∧ ∀ w', Grows w w' → Row w' w'.heap.size A ns.length (ns.map strB) := by
  obtain ⟨own, h1, h2, us, h3, h4, h5⟩ := h
  have hlk : k < L.length := (List.getElem?_eq_some_iff.1 hk).1
  have hlu : us.length = L.length := by have := h3.1; omega
  have hu : us[k]? = some us[k] := List.getElem?_eq_getElem (by omega)
  obtain ⟨k1, k2⟩ := h5 k _ ns hu hk
  obtain ⟨g, wc, hv, _, hlt⟩ := h3.form (by omega)
  obtain ⟨A, c, he, _⟩ := slice_of_owned k1
  refine ⟨g, wc, us[k], A, c, hv, he, fun w' hg => ?_, fun w' hg => ?_⟩
  · have hc := h3.cells (g := g) (by rw [hv]; rfl) k _ hu
    rw [show (⟨g, 0, none⟩ : Addr).add k = ⟨g, k, none⟩ by unfold Addr.add; split <;> simp_all] at hc
    rw [hg.cell (show (⟨g, k, none⟩ : Addr).block < w.heap.size from hlt)]
    exact hc
  · rw [he] at k1
    exact Row.owned (owned_grow k1 hg)
end
end Go.Proofs.Ytmfhpfehphbklaa
