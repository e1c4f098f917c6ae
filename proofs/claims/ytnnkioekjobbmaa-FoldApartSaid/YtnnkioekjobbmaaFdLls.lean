/-
  Lists of hints in memory; how much a heap has left, told by the world.
-/
import Derived.Test.YtnnkioekjobbmaaFdTake
namespace Go.Proofs.Ytnnkioekjobbmaa
open Go.RowKit
set_option linter.unusedVariables false
set_option linter.unusedSimpArgs false

abbrev Sl3 := Option Addr × Nat × Nat
instance : Inhabited Sl3 := ⟨(none, 0, 0)⟩
def fslV (s : Sl3) : Value := .slice s.1 s.2.1 s.2.2
def fslE (s : Sl3) : List Value := [fslV s]
theorem fslL (s : Sl3) : (fslE s).length = 1 := rfl
/-- Lists of hints. -/
structure Lls (w : World) (A : Option Addr) (n c : Nat) (sl : List Sl3) (ls : List (List Ht)) : Prop where
  row : Rs w A n c fslE 1 sl
  len : ls.length = n
  each : ∀ (i : Nat) (s : Sl3) (l : List Ht), sl[i]? = some s → ls[i]? = some l → Hts w s.1 s.2.1 s.2.2 l
theorem Lls.grow {w w' : World} {A : Option Addr} {n c : Nat} {sl : List Sl3} {ls : List (List Ht)} (h : Lls w A n c sl ls) (hg : Grows w w') : Lls w' A n c sl ls := ⟨h.row.grow hg, h.len, fun i s l h1 h2 => (h.each i s l h1 h2).grow hg⟩
theorem Lls.at {w : World} {A : Option Addr} {n c : Nat} {sl : List Sl3} {ls : List (List Ht)} (h : Lls w A n c sl ls) {i : Nat} (hi : i < n) : ∃ ad B k q l, A = some ad ∧ ls[i]? = some l ∧ Hts w B k q l ∧ ad.block < w.heap.size ∧ ∀ w', Grows w w' → w'.cell? (ad.add i) = some (.slice B k q) := by
  obtain ⟨ad, s, h1, h2, h3, h4⟩ := Rs.get fslL (by omega) h.row hi
  have hil : i < ls.length := by have := h.len; omega
  have hl : ls[i]? = some ls[i] := List.getElem?_eq_getElem hil
  refine ⟨ad, s.1, s.2.1, s.2.2, _, h1, hl, h.each i s _ h2 hl, h3, fun w' hg => ?_⟩
  have k0 := h4 0 _ rfl
  rw [Nat.mul_one, fadd0] at k0
  exact (hg.cell (by rw [add_block]; exact h3)).trans k0
theorem manyL_take {ls : List (List Ht)} {i : Nat} {l : List Ht} (h : ls[i]? = some l) : manyL (ls.take (i + 1)) = manyL (ls.take i) + l.length := by
  unfold manyL
  rw [List.take_add_one, h, List.map_append, List.sum_append]
  simp
theorem manyL_le : ∀ (ls : List (List Ht)) (i : Nat), manyL (ls.take i) ≤ manyL ls
  | [], i => by simp [manyL]
  | l :: r, 0 => by simp [manyL]
  | l :: r, i + 1 => by
    have := manyL_le r i
    unfold manyL at this ⊢
    rw [List.take_succ_cons, List.map_cons, List.sum_cons, List.map_cons, List.sum_cons]
    omega
theorem manyL_mem {ls : List (List Ht)} {i : Nat} {l : List Ht} (h : ls[i]? = some l) : l.length ≤ manyL ls := by
  have h1 := manyL_take h
  have h2 := manyL_le ls (i + 1)
  omega
/-- How much is left of what a heap has. -/
def leftAt (w : World) (p : Addr) : Nat :=
  match w.cell? p with
  | some (.pointer (some q)) => match w.cell? ⟨q.block, 1, none⟩ with
    | some (.slice _ k _) => k
    | _ => 0
  | _ => 0
def heapLeft (w : World) (h : Nat) : Nat :=
  match w.cell? ⟨h, 0, none⟩ with
  | some (.slice (some a) n _) => ((List.range n).map fun i => leftAt w ⟨a.block, i, none⟩).sum
  | _ => 0
theorem sum_range : ∀ {l : List El} {f : Nat → Nat}, (∀ i x, l[i]? = some x → f i = x.hs.length) → ((List.range l.length).map f).sum = countE l
  | [], f, _ => rfl
  | x :: l, f, h => by
    rw [List.length_cons, List.range_succ_eq_map, List.map_cons, List.sum_cons, List.map_map, countE_cons, h 0 x rfl]
    congr 1
    exact sum_range fun i y hy => h (i + 1) y (by rw [List.getElem?_cons_succ]; exact hy)
theorem Hp.left {W0 w : World} {h : Nat} {l : List El} {A : Option Addr} {c : Nat} (hp : Hp W0 w h l A c) : heapLeft w h = countE l := by
  unfold heapLeft
  rw [hp.box.cell]
  by_cases h0 : l.length = 0
  · have : l = [] := List.eq_nil_of_length_eq_zero h0
    subst this
    rcases A with _ | a <;> rfl
  · obtain ⟨g, cap, hv, hbg, hlt⟩ := hp.own.form (by omega)
    injection hv with hA _ hc
    subst hA hc
    dsimp only
    refine sum_range fun i x hx => ?_
    have c0 := cell1 hp.own hx
    have he := hp.els x (List.mem_of_getElem? hx)
    have c1 := he.blk.cell 1
    unfold leftAt
    rw [c0]
    unfold elV
    dsimp only
    rw [c1]
    have := he.row.len
    simp
    omega
theorem HpK.left {W0 w : World} {h : Nat} {l : List El} {K : Nat → Prop} (hk : HpK W0 w h l K) : heapLeft w h = countE l := by
  obtain ⟨A, c, hp, _⟩ := hk
  exact hp.left
theorem HasE.snoc {m m' : List El} {x : El} (p : m'.Perm (m ++ [x])) (i : Nat) (g : Ht) : HasE m' i g ↔ HasE m i g ∨ (i = x.no ∧ g ∈ x.hs) := by
  rw [HasE.perm p]
  constructor
  · rintro ⟨y, hy, q1, q2⟩
    rcases List.mem_append.1 hy with hy | hy
    · exact .inl ⟨y, hy, q1, q2⟩
    · rw [List.mem_singleton.1 hy] at q1 q2
      exact .inr ⟨q1.symm, q2⟩
  · rintro (⟨y, hy, q⟩ | ⟨q1, q2⟩)
    · exact ⟨y, List.mem_append_left _ hy, q⟩
    · exact ⟨x, List.mem_append_right _ (List.mem_singleton.2 rfl), q1.symm, q2⟩
theorem isheapE_nil : IsHeap ltE ([] : List El).length [] := fun c _ h => by simp at h
end Go.Proofs.Ytnnkioekjobbmaa
