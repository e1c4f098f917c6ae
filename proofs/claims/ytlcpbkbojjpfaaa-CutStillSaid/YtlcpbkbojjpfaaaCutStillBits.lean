/-
  A row of the call's own, written cell by cell; pieces that are overwritten one by one.
-/
import Derived.Test.YtlcpbkbojjpfaaaCutSt
namespace Go.Proofs.Ytlcpbkbojjpfaaa
open Go.RowKit
set_option linter.unusedVariables false

theorem own_at {w : World} {b : Nat} {e : TypeId} {A : Option Addr} {n c : Nat} {xs : List Value} (h : w.ownsRow b e 1 (.slice A n c) n xs) {k : Nat} (hk : k < n) :
    ∃ (ya : Addr) (x : Value), A = some ya ∧ xs[k]? = some x ∧ w.cell? (ya.add k) = some x ∧ w.frozen? (ya.add k) = false ∧ (Value.slice A n c).ownBlock = some ya.block ∧ (ya.add k).block = ya.block ∧ ∀ u, (w.setCell (ya.add k) u).ownsRow b e 1 (.slice A n c) n (xs.set k u) := by
  have hl := h.1
  have hx : xs[k]? = some xs[k] := List.getElem?_eq_getElem (by omega)
  rcases h.2 with ⟨e1, e2⟩ | ⟨g, cap, cur, e1, hb, hh, r⟩
  · omega
  · injection e1 with e1 _ e3
    subst e1 e3
    have ha : (⟨g, 0, none⟩ : Addr).add k = ⟨g, k, none⟩ := by unfold Addr.add; split <;> simp_all
    refine ⟨⟨g, 0, none⟩, xs[k], rfl, hx, ?_, ?_, rfl, by rw [add_block], fun u => ?_⟩
    · exact h.cells (g := g) rfl k _ hx
    · rw [ha]
      exact frozen_of_row w g k cur e hh
    · rw [ha]
      exact (h.stored k u).1

/-- The pieces ahead of i. -/
def ahead (xs : List Xp) (i : Nat) (k : Nat) : Prop := ∃ (j : Nat) (y : Xp), j < i ∧ xs[j]? = some y ∧ (slV y.1).ownBlock = some k
theorem ahead_more {xs : List Xp} {i k : Nat} (h : ahead xs i k) : ahead xs (i + 1) k := by
  obtain ⟨j, y, h1, h2⟩ := h
  exact ⟨j, y, by omega, h2⟩
/-- What stands at piece i, and behind it, is as it was. -/
theorem piece_at {w w' : World} {base P B b i : Nat} {v : Value} {xs : List Xp} {A3 : Option Addr} {c3 : Nat} (hl : Laid w base P v B xs) (ho : w.ownsRow b 23 1 (.slice A3 xs.length c3) xs.length (xs.map fun x => slV x.1)) (hs : Spares (ahead xs i) w w') (hi : i < xs.length) :
    ∃ (ad : Addr) (y : Xp), A3 = some ad ∧ xs[i]? = some y ∧ w'.cell? (ad.add i) = some (slV y.1) ∧ y.1.2.1 = P ∧ w'.ownsRow base 5 1 (slV y.1) P (y.2.map byteV) := by
  have hx : xs[i]? = some xs[i] := List.getElem?_eq_getElem hi
  have hmem := List.getElem_mem hi
  obtain ⟨hP, hrow⟩ := hl.rows _ hmem
  have ho' := owned_same (w' := w') ho fun k hk => hs.same k (owned_lt ho hk).2 (by
    rintro ⟨j, y, _, hy, e⟩
    have hrj := (hl.rows y (List.mem_of_getElem? hy)).2
    rcases own_apartC hrj ho (by decide) with h0 | h0
    · rw [h0] at e; cases e
    · exact h0 (e.trans hk.symm))
  have hrow' := owned_same (w' := w') hrow fun k hk => hs.same k (owned_lt hrow hk).2 (by
    rintro ⟨j, y, hj, hy, e⟩
    have hjl : j < xs.length := (List.getElem?_eq_some_iff.1 hy).1
    have hyj : xs[j] = y := (List.getElem?_eq_some_iff.1 hy).2
    have := List.pairwise_iff_getElem.1 hl.pair j i hjl hi hj k (by rw [hyj]; exact e)
    exact this hk)
  obtain ⟨ad, x, e, hxx, hcell, _⟩ := own_at ho' hi
  rw [List.getElem?_map, hx] at hxx
  simp only [Option.map_some, Option.some.injEq] at hxx
  subst hxx
  exact ⟨ad, xs[i], e, hx, hcell, hP, hrow'⟩
theorem table_at {w w' : World} {base P B b i j : Nat} {v : Value} {xs : List Xp} {y : Xp} {A3 : Option Addr} {c3 : Nat} (hl : Laid w base P v B xs) (ho : w.ownsRow b 23 1 (.slice A3 xs.length c3) xs.length (xs.map fun x => slV x.1)) (hs : Spares (ahead xs j) w w') (hy : xs[i]? = some y) :
    ∃ ad, A3 = some ad ∧ w'.cell? (ad.add i) = some (slV y.1) := by
  have hi : i < xs.length := (List.getElem?_eq_some_iff.1 hy).1
  have ho' := owned_same (w' := w') ho fun k hk => hs.same k (owned_lt ho hk).2 (by
    rintro ⟨j, y, _, hy, e⟩
    have hrj := (hl.rows y (List.mem_of_getElem? hy)).2
    rcases own_apartC hrj ho (by decide) with h0 | h0
    · rw [h0] at e; cases e
    · exact h0 (e.trans hk.symm))
  obtain ⟨ad, x, e, hxx, hcell, _⟩ := own_at ho' hi
  rw [List.getElem?_map, hy] at hxx
  simp only [Option.map_some, Option.some.injEq] at hxx
  subst hxx
  exact ⟨ad, e, hcell⟩
theorem take_flat_leS (ps : List (List UInt8)) (k : Nat) : (ps.take k).flatten.length ≤ ps.flatten.length := by
  conv => rhs; rw [← List.take_append_drop k ps, List.flatten_append, List.length_append]
  omega
theorem take_flat_oneS {ps : List (List UInt8)} {k : Nat} (h : k < ps.length) : (ps.take (k + 1)).flatten = (ps.take k).flatten ++ ps.getD k [] := by
  rw [List.take_add_one, List.getElem?_eq_getElem h, List.flatten_append]
  simp [h]
theorem flat_more {xs : List Xp} {i : Nat} {y : Xp} (h : xs[i]? = some y) : ((xs.take (i + 1)).map (·.2)).flatten = ((xs.take i).map (·.2)).flatten ++ y.2 := by
  rw [List.take_add_one, h, List.map_append, List.flatten_append]
  simp
theorem flat_le (xs : List Xp) (i : Nat) : ((xs.take i).map (·.2)).flatten.length ≤ ((xs.map (·.2))).flatten.length := by
  conv => rhs; rw [← List.take_append_drop i xs, List.map_append, List.flatten_append, List.length_append]
  omega
end Go.Proofs.Ytlcpbkbojjpfaaa
