/-
  A change is done to names, and is pending.
-/
import Derived.Test.YtmfhpfehphbklaaDkChange
import Derived.Test.YtmfhpfehphbklaaLists
namespace Go.Proofs.Ytmfhpfehphbklaa
open Go.RowKit Go.Maps Go.WideMaps
set_option linter.unusedVariables false
set_option linter.unusedSimpArgs false

theorem infoChange : (Try.prog.info? 95).map (fun i => (i.zero, i.size, i.bytes)) = some (some .nilFunc, 1, 8) := by kernel_rfl

theorem row_one (w : World) (t : TypeId) (u : Value) : Row (w.alloc (.cells #[u] t)) (w.alloc (.cells #[u] t)).heap.size (some ⟨w.heap.size, 0, none⟩) 1 [u] :=
  ⟨rfl, fun k v hv => ⟨⟨w.heap.size, 0, none⟩, rfl, (Whole.made w t #[u]).lt, by
    rw [show (⟨w.heap.size, 0, none⟩ : Addr).add k = ⟨w.heap.size, k, none⟩ by unfold Addr.add; split <;> simp_all, (Whole.made w t #[u]).cell k]
    simpa using hv⟩⟩

/-- Behind a change. -/
structure Changed (w : World) (d : Nat) (own : Nat → Prop) (w' : World) (m0 m' : Dk) : Prop where
  ends : ∃ own' G', DkRest w' own' G' m' ∧ Whole w' d 90 (dCells m0 G'.nb G'.kb G'.pv) ∧ ¬ own' d ∧ ∀ k, own' k → own k ∨ w.heap.size ≤ k
  low : Spares (fun k => k = d ∨ own k) w w'

section
variable {w : World} {d : Nat} {own : Nat → Prop} {G : Geo} {m m0 : Dk} {v : Value} {c : Ch}

/-- What is left to say behind the change itself, and the append. -/
theorem changed_of {w1 w2 w3 : World} {n : Nat} {A : Option Addr} {cc : Nat} (h : DkRest w own G m) (ht : Whole w d 90 (dCells m0 G.nb G.kb G.pv)) (hd : ¬ own d) (hc : ChAt w own m.made G.loc v c)
    (hn : OwnsN w1 m.made G.loc G.nb n (c.on m.names)) (ht1 : w.mapTurned w1 G.nb)
    (hr : w2.ownsRow 0 95 1 (.slice A (m.pend.length + 1) cc) (m.pend.length + 1) (G.pvs ++ [v])) (hg : (w1.alloc (.cells #[v] 95)).grownBy w2 G.pv.ownBlock)
    (hat : (Value.slice A (m.pend.length + 1) cc).ownBlock = G.pv.ownBlock ∨ (Value.slice A (m.pend.length + 1) cc).ownBlock = some (w1.alloc (.cells #[v] 95)).heap.size)
    (hw3 : w3 = w2.setCell ⟨d, 5, none⟩ (.slice A (m.pend.length + 1) cc)) : Changed w d own w3 m0 (m.change c) := by
  have hsz1 : w.heap.size ≤ w1.heap.size := ht1.grown.size
  have hsz2 : w.heap.size + 1 ≤ w2.heap.size := by have := hg.size; rw [World.size_alloc] at this; omega
  have a1 : DkRest w1 own G { m with names := c.on m.names } := h.named hn (fun k hk hne => ht1.grown.block k hk (fun e => hne (by injection e))) (by omega)
  have b2 : ∀ k, k < w.heap.size → G.pv.ownBlock ≠ some k → w2.heap[k]? = w1.heap[k]? := fun k hk hne => by
    rw [hg.block k (by rw [World.size_alloc]; omega) (fun e => hne e.symm)]
    exact Below.heap_alloc _ _ _ (by omega)
  have dT : ∀ {k : Nat} {cs : Array Value} {t : TypeId}, w.heap[k]? = some (.cells cs t (0, 0)) → t ≠ 95 → G.pv.ownBlock ≠ some k := fun hk hne e => by
    obtain ⟨cur, h1⟩ := row_block h.pend e
    rw [hk] at h1
    injection h1 with h1
    injection h1 with _ h1 _
    exact hne h1
  have ht' : Whole w2 d 90 (dCells m0 G.nb G.kb G.pv) := (ht.same (ht1.grown.block d ht.lt fun e => by
    injection e with e
    exact hd (e ▸ h.on))).same (b2 d ht.lt (dT ht (by decide)))
  have a2 : DkRest w2 (fun k => own k ∨ (Value.slice A (m.pend.length + 1) cc).ownBlock = some k) { G with pv := .slice A (m.pend.length + 1) cc, pvs := G.pvs ++ [v] } (m.change c) := by
    have a1' : DkRest w1 own G (m.change c |> fun x => { x with pend := m.pend }) := a1
    have wide : ∀ {x : World}, DkRest x own G { m with names := c.on m.names } → w.heap.size ≤ x.heap.size → True := fun _ _ => trivial
    have hlt2 : ∀ k, (own k ∨ (Value.slice A (m.pend.length + 1) cc).ownBlock = some k) → k < w2.heap.size := by
      rintro k (hk | hk)
      · have := h.lt k hk; omega
      · exact (hr.lt k hk).2
    constructor
    · exact hlt2
    · exact map_same a1.names (b2 _ (h.lt _ h.on) fun e => by
        obtain ⟨cur, h1⟩ := row_block h.pend e
        obtain ⟨es, cl, h2⟩ := map_block h.names
        rw [h1] at h2; cases h2)
    · exact .inl h.on
    · exact map_same a1.kept (b2 _ (h.lt _ h.ok) fun e => by
        obtain ⟨cur, h1⟩ := row_block h.pend e
        obtain ⟨es, cl, h2⟩ := map_block h.kept
        rw [h1] at h2; cases h2)
    · exact .inl h.ok
    · exact h.nk
    · show w2.ownsRow 0 95 1 _ (m.pend ++ [c]).length _
      rw [List.length_append]
      exact hr
    · exact fun k hk => .inr hk
    · intro i u x h1 h2
      have h1 : (G.pvs ++ [v])[i]? = some u := h1
      have h2 : (m.pend ++ [c])[i]? = some x := h2
      have stay : ∀ {u : Value} {x : Ch}, ChAt w1 own m.made G.loc u x → ChAt w2 (fun k => own k ∨ (Value.slice A (m.pend.length + 1) cc).ownBlock = some k) m.made G.loc u x := fun hu => hu.stay (fun _ h => .inl h) (Nat.le_refl _) (fun _ _ => rfl) fun k hk cs t e et =>
        b2 k (h.lt k hk) fun e2 => by
          obtain ⟨cur, h1⟩ := row_block a1.pend e2
          rw [e] at h1
          injection h1 with h1
          injection h1 with _ h1 _
          subst h1
          rcases et with et | et <;> cases et
      rcases Nat.lt_or_ge i m.pend.length with hi | hi
      · rw [List.getElem?_append_left (by have := h.nlen; omega)] at h1
        rw [List.getElem?_append_left hi] at h2
        exact stay (a1.chs i u x h1 h2)
      · rw [List.getElem?_append_right (by have := h.nlen; omega)] at h1
        rw [List.getElem?_append_right hi] at h2
        have e0 : i - m.pend.length = 0 := by
          rcases Nat.eq_zero_or_pos (i - m.pend.length) with e | e
          · exact e
          · rw [List.getElem?_eq_none (by simp only [List.length_cons, List.length_nil]; omega)] at h2; cases h2
        rw [h.nlen, e0] at h1
        rw [e0] at h2
        cases h1; cases h2
        exact stay (hc.stay (fun _ h => h) (Nat.le_refl _) (fun _ _ => rfl) fun k hk cs t e et => ht1.grown.block k (h.lt k hk) fun e2 => by
          injection e2 with e2
          subst e2
          obtain ⟨es, cl, h2⟩ := map_block h.names
          rw [e] at h2; cases h2)
    · exact h.inj
    · exact fun i hi => (a1.cells i hi).same (b2 _ (h.lt _ (h.ol i hi)) (dT (h.cells i hi) (by decide)))
    · exact fun i hi => .inl (h.ol i hi)
    · exact fun i hi => row_same (a1.rows i hi) fun k hk => b2 k (h.lt _ (h.or i k hi hk)) (by
        obtain ⟨cur, h1⟩ := row_block (h.rows i hi) hk
        exact dT h1 (by decide))
    · exact fun i k hi hk => .inl (h.or i k hi hk)
    · exact h.apart
  have hnd : ¬ (own d ∨ (Value.slice A (m.pend.length + 1) cc).ownBlock = some d) := by
    rintro (e | e)
    · exact hd e
    · obtain ⟨cur, h1⟩ := row_block hr e
      unfold Whole at ht'
      rw [ht'] at h1
      injection h1 with h1
      injection h1 with _ h1 _
      cases h1
  subst hw3
  refine ⟨⟨_, _, a2.stay (fun k hk => Below.heap_setCell _ _ _ _ fun e => hnd (by have e : k = d := e; exact e ▸ hk)) (by simp [World.setCell]), ?_, hnd, ?_⟩, ?_⟩
  · exact ht'.put 5 _
  · rintro k (hk | hk)
    · exact .inl hk
    · rcases hat with e | e
      · exact .inl (h.op k (e ▸ hk))
      · rw [e] at hk
        injection hk with hk
        rw [World.size_alloc] at hk
        exact .inr (by omega)
  · have s1 : Spares (fun k => k = d ∨ own k) w w1 := (Spares.refl _ w).grown ht1.grown fun g e => by
      injection e with e
      exact .inr (e ▸ h.on)
    exact ((s1.alloc _).grown hg fun g e => .inr (h.op g e)).setCell (p := ⟨d, 5, none⟩) (.inl rfl) _

set_option maxHeartbeats 2000000 in
set_option maxRecDepth 100000 in
theorem change_any (w : World) (h : DkRest w own G m) (ht : Whole w d 90 (dCells m0 G.nb G.kb G.pv)) (hd : ¬ own d) (hc : ChAt w own m.made G.loc v c) (hp : m.pend.length ≤ 1000000000) (hq : m.names.length ≤ 1000000000) :
    Calls Try.prog 51 #[.pointer (some ⟨d, 0, none⟩), v] w fun e w' => e = .returned (.tuple #[]) ∧ Changed w d own w' m0 (m.change c) := by
  have c3 : w.cell? ⟨d, 3, none⟩ = some (.map (some G.nb)) := ht.cell 3
  obtain ⟨i0, hi0, hz0, hz1, hz2⟩ := info_parts infoChange
  have HI := Lib.hid (And.intro hi0 (And.intro hz0 (And.intro hz1 hz2)))
  clear hi0 hz0 hz1 hz2
  obtain ⟨A0, cc0, hA0, _⟩ := slice_of_owned h.pend
  have HA0 := Lib.hid hA0
  -- what is known behind the change
  have next : ∀ w1, OwnsN w1 m.made G.loc G.nb (m.names.length + 1) (c.on m.names) → w.mapTurned w1 G.nb →
      w1.cell? ⟨d, 5, none⟩ = some (.slice A0 m.pend.length cc0) ∧ w1.frozen? ⟨d, 5, none⟩ = false ∧ d < w1.heap.size ∧ (w1.alloc (.cells #[v] 95)).ownsRow 0 95 1 (.slice A0 m.pend.length cc0) m.pend.length G.pvs ∧ ∀ w2, (w1.alloc (.cells #[v] 95)).grownBy w2 G.pv.ownBlock → w2.cell? ⟨d, 5, none⟩ = some (.slice A0 m.pend.length cc0) ∧ w2.frozen? ⟨d, 5, none⟩ = false := fun w1 hn ht1 => by
    have t1 : Whole w1 d 90 (dCells m0 G.nb G.kb G.pv) := ht.same (ht1.grown.block d ht.lt fun e => by
      injection e with e
      exact hd (e ▸ h.on))
    have e5 : w1.cell? ⟨d, 5, none⟩ = some G.pv := t1.cell 5
    rw [hA0] at e5
    refine ⟨e5, t1.free 5, t1.lt, ?_, fun w2 hg => ?_⟩
    rotate_left
    · have t2 : Whole w2 d 90 (dCells m0 G.nb G.kb G.pv) := (t1.alloc _).same (hg.block d (by rw [World.size_alloc]; have := t1.lt; omega) fun e => by
        obtain ⟨cur, h1⟩ := row_block h.pend e.symm
        unfold Whole at ht
        rw [ht] at h1
        injection h1 with h1
        injection h1 with _ h1 _
        cases h1)
      refine ⟨?_, t2.free 5⟩
      rw [← hA0]
      exact t2.cell 5
    rw [← hA0]
    have r1 : w1.ownsRow 0 95 1 G.pv m.pend.length G.pvs := row_same h.pend fun k hk => ht1.grown.block k (h.lt k (h.op k hk)) fun e => by
      injection e with e
      subst e
      obtain ⟨cur, h1⟩ := row_block h.pend hk
      obtain ⟨es, cl, h2⟩ := map_block h.names
      rw [h1] at h2; cases h2
    exact row_same r1 fun k hk => Below.heap_alloc _ _ _ (r1.lt k hk).2
  have fin := fun w1 w2 w3 n A cc hn ht1 hr hg hat hw3 => changed_of (w1 := w1) (w2 := w2) (w3 := w3) (n := n) (A := A) (cc := cc) h ht hd hc hn ht1 hr hg hat hw3
  have HF := Lib.hid fin
  have HN := Lib.hid next
  clear next fin hA0
  cases c with
  | taken n =>
    obtain ⟨q1, a, rfl, _, hwa⟩ := hc
    have HM := Lib.hid (taken_map w h.names q1 hwa)
    clear h ht hd
    unfold ptrV at *
    go_enter Try.func51, Try.ntmps51
    go_wp2_with (first
      | (go_at_call 89; refine (HM.out).mono ?_; rintro e w1 ⟨rfl, hn1, ht1⟩; have hx := HN.out w1 hn1 ht1; have c5 := hx.1; have f5 := hx.2.1; have HX := Lib.hid hx.2.2.2; have HN1 := Lib.hid hn1; have HT1 := Lib.hid ht1; clear hx hn1 ht1)
      | (at_builtin; refine list_append_row rfl _ _ 88 rfl Try.underlying88 HI.out.1 HI.out.2.1 HI.out.2.2.1 HI.out.2.2.2 rfl rfl HX.out.1 (news := _) rfl (row_one _ _ _) (fun h => by cases h) (by simp [Value.oneCell']) (m.pend.length + 1) rfl _ rfl (by unfold maxLen; omega) (by omega) (Nat.zero_le _) ?_; intro A2 cc2 w2 hr2 _ hg2 hat2; have hx2 := HX.out.2 w2 (HA0.out ▸ hg2); have c52 := hx2.1; have f52 := hx2.2; have HR2 := Lib.hid hr2; have HG2 := Lib.hid hg2; have HAT := Lib.hid hat2; clear hr2 hg2 hat2 hx2))
    go_end0
    exact ⟨rfl, HF.out _ _ _ _ _ _ HN1.out HT1.out HR2.out (HA0.out ▸ HG2.out) (HA0.out ▸ HAT.out) rfl⟩
  | made n f =>
    obtain ⟨q1, q2, a, b, rfl, _, _, hwb, hwa⟩ := hc
    have HM := Lib.hid (made_map w h.inj h.names (by unfold maxLen; omega) q1 q2 hwa hwb)
    clear h ht hd
    unfold ptrV at *
    go_enter Try.func51, Try.ntmps51
    go_wp2_with (first
      | (go_at_call 83; refine (HM.out).mono ?_; rintro e w1 ⟨rfl, hn1, ht1⟩; have hx := HN.out w1 hn1 ht1; have c5 := hx.1; have f5 := hx.2.1; have HX := Lib.hid hx.2.2.2; have HN1 := Lib.hid hn1; have HT1 := Lib.hid ht1; clear hx hn1 ht1)
      | (at_builtin; refine list_append_row rfl _ _ 88 rfl Try.underlying88 HI.out.1 HI.out.2.1 HI.out.2.2.1 HI.out.2.2.2 rfl rfl HX.out.1 (news := _) rfl (row_one _ _ _) (fun h => by cases h) (by simp [Value.oneCell']) (m.pend.length + 1) rfl _ rfl (by unfold maxLen; omega) (by omega) (Nat.zero_le _) ?_; intro A2 cc2 w2 hr2 _ hg2 hat2; have hx2 := HX.out.2 w2 (HA0.out ▸ hg2); have c52 := hx2.1; have f52 := hx2.2; have HR2 := Lib.hid hr2; have HG2 := Lib.hid hg2; have HAT := Lib.hid hat2; clear hr2 hg2 hat2 hx2))
    go_end0
    exact ⟨rfl, HF.out _ _ _ _ _ _ HN1.out HT1.out HR2.out (HA0.out ▸ HG2.out) (HA0.out ▸ HAT.out) rfl⟩
  | moved n to =>
    obtain ⟨q1, q2, a, b, rfl, _, _, hwa, hwb⟩ := hc
    have HM := Lib.hid (moved_map w h.inj h.names (by unfold maxLen; omega) q1 q2 hwa hwb)
    clear h ht hd
    unfold ptrV at *
    go_enter Try.func51, Try.ntmps51
    go_wp2_with (first
      | (go_at_call 88; refine (HM.out).mono ?_; rintro e w1 ⟨rfl, hn1, ht1⟩; have hx := HN.out w1 hn1 ht1; have c5 := hx.1; have f5 := hx.2.1; have HX := Lib.hid hx.2.2.2; have HN1 := Lib.hid hn1; have HT1 := Lib.hid ht1; clear hx hn1 ht1)
      | (at_builtin; refine list_append_row rfl _ _ 88 rfl Try.underlying88 HI.out.1 HI.out.2.1 HI.out.2.2.1 HI.out.2.2.2 rfl rfl HX.out.1 (news := _) rfl (row_one _ _ _) (fun h => by cases h) (by simp [Value.oneCell']) (m.pend.length + 1) rfl _ rfl (by unfold maxLen; omega) (by omega) (Nat.zero_le _) ?_; intro A2 cc2 w2 hr2 _ hg2 hat2; have hx2 := HX.out.2 w2 (HA0.out ▸ hg2); have c52 := hx2.1; have f52 := hx2.2; have HR2 := Lib.hid hr2; have HG2 := Lib.hid hg2; have HAT := Lib.hid hat2; clear hr2 hg2 hat2 hx2))
    go_end0
    exact ⟨rfl, HF.out _ _ _ _ _ _ HN1.out HT1.out HR2.out (HA0.out ▸ HG2.out) (HA0.out ▸ HAT.out) rfl⟩
end
end Go.Proofs.Ytmfhpfehphbklaa
