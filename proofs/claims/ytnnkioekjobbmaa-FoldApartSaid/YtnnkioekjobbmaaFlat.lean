/-
  Slices of structs, at the beginning of their block.
-/
import Derived.Test.YtnnkioekjobbmaaSlices
import Derived.Laws.AppendOwn
namespace Go.Proofs.Ytnnkioekjobbmaa
open Go.RowKit
set_option linter.unusedVariables false
set_option linter.unusedSimpArgs false
section
variable {α : Type}
theorem flat_length {enc : α → List Value} {k : Nat} (hk : ∀ a, (enc a).length = k) : ∀ l : List α, (l.flatMap enc).length = l.length * k
  | [] => by simp
  | a :: l => by
    rw [List.flatMap_cons, List.length_append, hk, flat_length hk l, List.length_cons, Nat.add_mul]
    omega
theorem flat_get {enc : α → List Value} {k : Nat} (hk : ∀ a, (enc a).length = k) : ∀ (l : List α) (i j : Nat) (a : α), l[i]? = some a → j < k → (l.flatMap enc)[i * k + j]? = (enc a)[j]?
  | a :: l, 0, j, _, h, hj => by
    simp only [List.getElem?_cons_zero, Option.some.injEq] at h
    subst h
    rw [List.flatMap_cons, Nat.zero_mul, Nat.zero_add, List.getElem?_append_left (by rw [hk]; exact hj)]
  | a :: l, i + 1, j, b, h, hj => by
    rw [List.flatMap_cons, List.getElem?_append_right (by rw [hk, Nat.add_mul]; omega), hk, show (i + 1) * k + j - k = i * k + j by rw [Nat.add_mul]; omega]
    exact flat_get hk l i j b (by simpa using h) hj
  | [], i, j, _, h, _ => by simp at h
/-- A slice of structs, at the beginning of its block. -/
structure Rw (w : World) (A : Option Addr) (n : Nat) (enc : α → List Value) (k : Nat) (l : List α) : Prop where
  len : l.length = n
  spot : ∀ (i : Nat) (a : α), l[i]? = some a → ∃ g, A = some ⟨g, 0, none⟩ ∧ g < w.heap.size ∧ ∀ j, j < k → w.cell? ⟨g, i * k + j, none⟩ = (enc a)[j]?
theorem Rw.owned {w : World} {e : TypeId} {A : Option Addr} {n c k : Nat} {enc : α → List Value} {l : List α} (hk : ∀ a, (enc a).length = k) (hl : l.length = n) (h : w.ownsRow 0 e k (.slice A n c) n (l.flatMap enc)) : Rw w A n enc k l := by
  refine ⟨hl, fun i a hi => ?_⟩
  have hil : i < l.length := (List.getElem?_eq_some_iff.1 hi).1
  obtain ⟨g, cap, hv, _, hlt⟩ := h.form (by omega)
  injection hv with hA _ _
  subst hA
  refine ⟨g, rfl, hlt, fun j hj => ?_⟩
  have h1 := flat_get hk l i j a hi hj
  have h2 : j < (enc a).length := by rw [hk]; exact hj
  rw [List.getElem?_eq_getElem h2] at h1 ⊢
  have h3 := h.cells (g := g) rfl _ _ h1
  rw [show (⟨g, 0, none⟩ : Addr).add (i * k + j) = ⟨g, i * k + j, none⟩ by unfold Addr.add; split <;> simp_all] at h3
  exact h3
theorem Rw.grow {w w' : World} {A : Option Addr} {n k : Nat} {enc : α → List Value} {l : List α} (h : Rw w A n enc k l) (hg : Grows w w') : Rw w' A n enc k l :=
  ⟨h.len, fun i a hi => by
    obtain ⟨g, h1, h2, h3⟩ := h.spot i a hi
    exact ⟨g, h1, Nat.lt_of_lt_of_le h2 hg.size, fun j hj => by rw [hg.cell (show (⟨g, i * k + j, none⟩ : Addr).block < w.heap.size from h2)]; exact h3 j hj⟩⟩
end
end Go.Proofs.Ytnnkioekjobbmaa
