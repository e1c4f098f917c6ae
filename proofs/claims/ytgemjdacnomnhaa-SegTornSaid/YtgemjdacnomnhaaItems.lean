/-
  Slices of api.Item: three cells each, the last of which is a slice of bytes.
-/
import Derived.Test.YtgemjdacnomnhaaRowsIn
namespace Go.Proofs.Ytgemjdacnomnhaa
open Go.RowKit

/-- An item: where its frame begins, how long it is, its body. -/
abbrev It := Nat × Nat × List UInt8
abbrev Hd := Option Addr × Nat × Nat
def itV (t : It) (h : Hd) : List Value := [.int .i64 (t.1 : Nat), .int .i64 (t.2.1 : Nat), slV h]
def itCells : List It → List Hd → List Value
  | t :: ts, h :: hs => itV t h ++ itCells ts hs
  | _, _ => []
theorem itCells_length : ∀ (ts : List It) (hs : List Hd), ts.length = hs.length → (itCells ts hs).length = 3 * ts.length
  | [], [], _ => rfl
  | t :: ts, h :: hs, e => by
    have := itCells_length ts hs (by simpa using e)
    simp only [itCells, List.length_append, itV, List.length_cons, List.length_nil, this]
    omega
  | [], _ :: _, e => by cases e
  | _ :: _, [], e => by cases e
theorem itCells_append : ∀ (ts us : List It) (hs gs : List Hd), ts.length = hs.length → itCells (ts ++ us) (hs ++ gs) = itCells ts hs ++ itCells us gs
  | [], us, [], gs, _ => rfl
  | t :: ts, us, h :: hs, gs, e => by
    simp only [List.cons_append, itCells]
    rw [itCells_append ts us hs gs (by simpa using e), List.append_assoc]
  | [], _, _ :: _, _, e => by cases e
  | _ :: _, _, [], _, e => by cases e
theorem itCells_get : ∀ (ts : List It) (hs : List Hd) (i : Nat) (t : It) (h : Hd), ts[i]? = some t → hs[i]? = some h →
    (itCells ts hs)[3 * i]? = some (.int .i64 (t.1 : Nat)) ∧ (itCells ts hs)[3 * i + 1]? = some (.int .i64 (t.2.1 : Nat)) ∧ (itCells ts hs)[3 * i + 2]? = some (slV h)
  | t :: ts, h :: hs, 0, _, _, ht, hh => by
    simp only [List.getElem?_cons_zero, Option.some.injEq] at ht hh
    subst ht hh
    exact ⟨rfl, rfl, rfl⟩
  | t :: ts, h :: hs, i + 1, t', h', ht, hh => by
    obtain ⟨h1, h2, h3⟩ := itCells_get ts hs i t' h' (by simpa using ht) (by simpa using hh)
    have e : ∀ k, (itV t h ++ itCells ts hs)[3 + k]? = (itCells ts hs)[k]? := fun k => by
      rw [List.getElem?_append_right (by simp [itV])]
      simp [itV]
    refine ⟨?_, ?_, ?_⟩
    · rw [show 3 * (i + 1) = 3 + 3 * i by omega]; exact (e _).trans h1
    · rw [show 3 * (i + 1) + 1 = 3 + (3 * i + 1) by omega]; exact (e _).trans h2
    · rw [show 3 * (i + 1) + 2 = 3 + (3 * i + 2) by omega]; exact (e _).trans h3
  | [], _, i, _, _, ht, _ => by simp at ht
  | _ :: _, [], i, _, _, _, hh => by simp at hh

/-- A slice of items. -/
structure Items (w : World) (A : Option Addr) (n c : Nat) (ts : List It) : Prop where
  len : ts.length = n
  cap : n ≤ c
  bare : A = none → c = 0
  rows : ∃ hs : List Hd, hs.length = n ∧ Row w w.heap.size A (3 * n) (itCells ts hs) ∧ ∀ (i : Nat) (h : Hd) (t : It), hs[i]? = some h → ts[i]? = some t → Sl w h.1 h.2.1 h.2.2 t.2.2
theorem Items.grow {w w' : World} {A : Option Addr} {n c : Nat} {ts : List It} (hg : Grows w w') (h : Items w A n c ts) : Items w' A n c ts := by
  obtain ⟨h1, h2, h3, hs, hl, hr, hq⟩ := h
  exact ⟨h1, h2, h3, hs, hl, hg.row hr, fun i x l hx hl => (hq i x l hx hl).grow hg⟩
theorem Items.nil (w : World) : Items w none 0 0 [] := ⟨rfl, Nat.le_refl _, fun _ => rfl, [], rfl, Row.nil _ _ _, fun i h t hh => by simp at hh⟩

/-- Item i, as it stands in memory. -/
theorem Items.get {w : World} {A : Option Addr} {n c : Nat} {ts : List It} (h : Items w A n c ts) {i : Nat} (hi : i < n) :
    ∃ ad B m d, A = some ad ∧ w.cell? (ad.add (3 * i)) = some (.int .i64 ((ts.getD i (0, 0, [])).1 : Nat)) ∧ w.cell? (ad.add (3 * i + 1)) = some (.int .i64 ((ts.getD i (0, 0, [])).2.1 : Nat)) ∧
      w.cell? (ad.add (3 * i + 2)) = some (.slice B m d) ∧ Sl w B m d (ts.getD i (0, 0, [])).2.2 := by
  obtain ⟨h1, _, _, hs, hl, hr, hq⟩ := h
  have hx : hs[i]? = some hs[i] := List.getElem?_eq_getElem (by omega)
  have ht : ts[i]? = some (ts.getD i (0, 0, [])) := by
    rw [List.getElem?_eq_getElem (by omega)]
    simp [show i < ts.length by omega]
  obtain ⟨g1, g2, g3⟩ := itCells_get ts hs i _ _ ht hx
  obtain ⟨ad, hA, _, c1⟩ := hr.spot _ _ g1
  obtain ⟨ad2, hA2, _, c2⟩ := hr.spot _ _ g2
  obtain ⟨ad3, hA3, _, c3⟩ := hr.spot _ _ g3
  rw [hA] at hA2 hA3
  injection hA2 with hA2
  injection hA3 with hA3
  subst hA2 hA3
  exact ⟨ad, hs[i].1, hs[i].2.1, hs[i].2.2, hA, c1, c2, c3, hq i _ _ hx ht⟩
/-- .. in each world that has grown out of this one, at the addresses as a walk reckons them. -/
theorem Items.spot {w : World} {A : Option Addr} {n c : Nat} {ts : List It} (h : Items w A n c ts) {i : Nat} (hi : i < n) :
    ∃ ad B m d, A = some ad ∧ (∀ w', Grows w w' → w'.cell? (ad.add (i * 3)) = some (.int .i64 ((ts.getD i (0, 0, [])).1 : Nat))) ∧
      (∀ w', Grows w w' → w'.cell? { block := (ad.add (i * 3)).block, off := (ad.add (i * 3)).off + 1 } = some (.int .i64 ((ts.getD i (0, 0, [])).2.1 : Nat))) ∧
      (∀ w', Grows w w' → w'.cell? { block := (ad.add (i * 3)).block, off := (ad.add (i * 3)).off + 2 } = some (.slice B m d)) ∧ Sl w B m d (ts.getD i (0, 0, [])).2.2 := by
  obtain ⟨ad, B, m, d, hA, c1, c2, c3, hs⟩ := h.get hi
  have e1 : ad.add (3 * i) = ad.add (i * 3) := by rw [Nat.mul_comm]
  have e2 : ad.add (3 * i + 1) = { block := (ad.add (i * 3)).block, off := (ad.add (i * 3)).off + 1 } := by rw [Nat.mul_comm, ← add_twice, Addr.add_succ' (ad.add (i * 3)) 0]
  have e3 : ad.add (3 * i + 2) = { block := (ad.add (i * 3)).block, off := (ad.add (i * 3)).off + 2 } := by rw [Nat.mul_comm, ← add_twice, Addr.add_succ' (ad.add (i * 3)) 1]
  have up : ∀ (p : Addr) (v : Value), w.cell? p = some v → ∀ w', Grows w w' → w'.cell? p = some v := fun p v hp w' hg => (hg.cell (World.block_lt_of_cell? w _ hp)).trans hp
  rw [e1] at c1
  rw [e2] at c2
  rw [e3] at c3
  exact ⟨ad, B, m, d, hA, up _ _ c1, up _ _ c2, up _ _ c3, hs⟩
theorem Items.owned {w : World} {base : Nat} {e : TypeId} {A : Option Addr} {n c : Nat} {ts : List It} {hs : List Hd} (hl : ts.length = hs.length) (hn : ts.length = n) (h : w.ownsRow base e 3 (.slice A n c) n (itCells ts hs))
    (hq : ∀ (i : Nat) (h : Hd) (t : It), hs[i]? = some h → ts[i]? = some t → Sl w h.1 h.2.1 h.2.2 t.2.2) : Items w A n c ts := by
  refine ⟨hn, ?_, ?_, hs, by omega, ?_, hq⟩
  · rcases h.2 with ⟨h1, h2⟩ | ⟨g, cap, _, h1, _, _, h2, _⟩
    · omega
    · injection h1 with _ _ h1; omega
  · intro hA
    rcases h.2 with ⟨h1, h2⟩ | ⟨g, cap, _, h1, _⟩
    · injection h1
    · injection h1 with h1 _ _; rw [hA] at h1; cases h1
  · refine ⟨by rw [itCells_length ts hs hl, hn], fun k v hv => ?_⟩
    have hpos : 0 < n := by
      rcases Nat.eq_zero_or_pos n with h0 | h0
      · subst h0
        have : itCells ts hs = [] := List.eq_nil_of_length_eq_zero (by rw [itCells_length ts hs hl, hn])
        rw [this] at hv
        simp at hv
      · exact h0
    obtain ⟨g, cap, hval, _, hlt⟩ := h.form hpos
    injection hval with hA _ _
    subst hA
    exact ⟨_, rfl, hlt, h.cells (g := g) rfl k v hv⟩
end Go.Proofs.Ytgemjdacnomnhaa
