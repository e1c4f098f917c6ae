/-
  Slices of api.Loc: three cells each.
-/
import Derived.Test.YtmfhpfehphbklaaRcPlain
import Derived.Test.YtmfhpfehphbklaaSteps
namespace Go.Proofs.Ytmfhpfehphbklaa
open Go.RowKit

def lcV (l : Lc) : List Value := [.int .i64 l.1, .int .i64 l.2.1, .int .i64 l.2.2]
def lcCells : List Lc → List Value
  | [] => []
  | l :: ls => lcV l ++ lcCells ls
theorem lcCells_length : ∀ ls : List Lc, (lcCells ls).length = 3 * ls.length
  | [] => rfl
  | l :: ls => by
    rw [lcCells, List.length_append, lcCells_length ls, List.length_cons]
    show 3 + _ = _
    omega
theorem lcCells_append : ∀ a b : List Lc, lcCells (a ++ b) = lcCells a ++ lcCells b
  | [], _ => rfl
  | l :: a, b => by rw [List.cons_append, lcCells, lcCells, lcCells_append a b, List.append_assoc]
theorem lcCells_get : ∀ (ls : List Lc) (i : Nat) (l : Lc), ls[i]? = some l →
    (lcCells ls)[3 * i]? = some (.int .i64 l.1) ∧ (lcCells ls)[3 * i + 1]? = some (.int .i64 l.2.1) ∧ (lcCells ls)[3 * i + 2]? = some (.int .i64 l.2.2)
  | l :: ls, 0, _, h => by
    simp only [List.getElem?_cons_zero, Option.some.injEq] at h
    subst h
    exact ⟨rfl, rfl, rfl⟩
  | l :: ls, i + 1, l', h => by
    obtain ⟨h1, h2, h3⟩ := lcCells_get ls i l' (by simpa using h)
    have e : ∀ k, (lcV l ++ lcCells ls)[3 + k]? = (lcCells ls)[k]? := fun k => by
      rw [List.getElem?_append_right (by simp [lcV])]
      simp [lcV]
    refine ⟨?_, ?_, ?_⟩
    · rw [show 3 * (i + 1) = 3 + 3 * i by omega]; exact (e _).trans h1
    · rw [show 3 * (i + 1) + 1 = 3 + (3 * i + 1) by omega]; exact (e _).trans h2
    · rw [show 3 * (i + 1) + 2 = 3 + (3 * i + 2) by omega]; exact (e _).trans h3
  | [], i, _, h => by simp at h

/-- A slice of places. -/
structure Locs (w : World) (A : Option Addr) (n c : Nat) (ls : List Lc) : Prop where
  len : ls.length = n
  cap : n ≤ c
  bare : A = none → c = 0
  row : Row w w.heap.size A (3 * n) (lcCells ls)
theorem Locs.grow {w w' : World} {A : Option Addr} {n c : Nat} {ls : List Lc} (hg : Grows w w') (h : Locs w A n c ls) : Locs w' A n c ls := ⟨h.len, h.cap, h.bare, hg.row h.row⟩
theorem Locs.nil (w : World) : Locs w none 0 0 [] := ⟨rfl, Nat.le_refl _, fun _ => rfl, Row.nil _ _ _⟩
/-- Place i, in each world that has grown out of this one, at the addresses as a walk reckons them. -/
theorem Locs.spot {w : World} {A : Option Addr} {n c : Nat} {ls : List Lc} (h : Locs w A n c ls) {i : Nat} (hi : i < n) :
    ∃ ad, A = some ad ∧ (∀ w', Grows w w' → w'.cell? (ad.add (i * 3)) = some (.int .i64 (ls.getD i (0, 0, 0)).1)) ∧
      (∀ w', Grows w w' → w'.cell? { block := (ad.add (i * 3)).block, off := (ad.add (i * 3)).off + 1 } = some (.int .i64 (ls.getD i (0, 0, 0)).2.1)) ∧
      (∀ w', Grows w w' → w'.cell? { block := (ad.add (i * 3)).block, off := (ad.add (i * 3)).off + 2 } = some (.int .i64 (ls.getD i (0, 0, 0)).2.2)) := by
  have hl := h.len
  have ht : ls[i]? = some (ls.getD i (0, 0, 0)) := by
    rw [List.getElem?_eq_getElem (by omega)]
    simp [show i < ls.length by omega]
  obtain ⟨g1, g2, g3⟩ := lcCells_get ls i _ ht
  obtain ⟨ad, hA, _, c1⟩ := h.row.spot _ _ g1
  obtain ⟨ad2, hA2, _, c2⟩ := h.row.spot _ _ g2
  obtain ⟨ad3, hA3, _, c3⟩ := h.row.spot _ _ g3
  rw [hA] at hA2 hA3
  injection hA2 with hA2
  injection hA3 with hA3
  subst hA2 hA3
  have e1 : ad.add (3 * i) = ad.add (i * 3) := by rw [Nat.mul_comm]
  have e2 : ad.add (3 * i + 1) = { block := (ad.add (i * 3)).block, off := (ad.add (i * 3)).off + 1 } := by rw [Nat.mul_comm, ← add_twice, Addr.add_succ' (ad.add (i * 3)) 0]
  have e3 : ad.add (3 * i + 2) = { block := (ad.add (i * 3)).block, off := (ad.add (i * 3)).off + 2 } := by rw [Nat.mul_comm, ← add_twice, Addr.add_succ' (ad.add (i * 3)) 1]
  have up : ∀ (p : Addr) (v : Value), w.cell? p = some v → ∀ w', Grows w w' → w'.cell? p = some v := fun p v hp w' hg => (hg.cell (World.block_lt_of_cell? w _ hp)).trans hp
  rw [e1] at c1
  rw [e2] at c2
  rw [e3] at c3
  exact ⟨ad, hA, up _ _ c1, up _ _ c2, up _ _ c3⟩
theorem Locs.owned {w : World} {base : Nat} {e : TypeId} {A : Option Addr} {n c : Nat} {ls : List Lc} (hn : ls.length = n) (h : w.ownsRow base e 3 (.slice A n c) n (lcCells ls)) : Locs w A n c ls := by
  refine ⟨hn, ?_, ?_, ?_⟩
  · rcases h.2 with ⟨h1, h2⟩ | ⟨g, cap, _, h1, _, _, h2, _⟩
    · omega
    · injection h1 with _ _ h1; omega
  · intro hA
    rcases h.2 with ⟨h1, h2⟩ | ⟨g, cap, _, h1, _⟩
    · injection h1
    · injection h1 with h1 _ _; rw [hA] at h1; cases h1
  · refine ⟨by rw [lcCells_length, hn], fun k v hv => ?_⟩
    have hpos : 0 < n := by
      rcases Nat.eq_zero_or_pos n with h0 | h0
      · subst h0
        have : lcCells ls = [] := List.eq_nil_of_length_eq_zero (by rw [lcCells_length, hn])
        rw [this] at hv
        simp at hv
      · exact h0
    obtain ⟨g, cap, hval, _, hlt⟩ := h.form hpos
    injection hval with hA _ _
    subst hA
    exact ⟨_, rfl, hlt, h.cells (g := g) rfl k v hv⟩

/-- A record's cells in memory. -/
structure RcIn (w : World) (LA : Option Addr) (ln lc : Nat) (BA : Option Addr) (bn bc : Nat) (r : Rc) : Prop where
  locs : Locs w LA ln lc r.locs
  sl : Sl w BA bn bc r.b
theorem RcIn.grow {w w' : World} {LA : Option Addr} {ln lc : Nat} {BA : Option Addr} {bn bc : Nat} {r : Rc} (hg : Grows w w') (h : RcIn w LA ln lc BA bn bc r) : RcIn w' LA ln lc BA bn bc r := ⟨h.locs.grow hg, h.sl.grow hg⟩

theorem sumN_append : ∀ a b : List Lc, sumN (a ++ b) = sumN a + sumN b
  | [], b => by simp [sumN]
  | l :: a, b => by rw [List.cons_append, sumN, sumN, sumN_append a b]; omega
theorem take_lc (ls : List Lc) (k : Nat) (h : k < ls.length) : ls.take (k + 1) = ls.take k ++ [ls.getD k (0, 0, 0)] := by
  rw [List.take_succ_eq_append_getElem h]
  simp [h]
/-- What a loop over places knows, k of them seen. -/
def Seen (ls : List Lc) (k : Nat) (s : Int) : Prop := (∀ l ∈ ls.take k, LocOk l) ∧ sumN (ls.take k) = s
theorem Seen.start (ls : List Lc) : Seen ls 0 0 := ⟨fun l h => by simp at h, by simp [sumN]⟩
theorem Seen.next {ls : List Lc} {k : Nat} {s : Int} (h : Seen ls k s) (hk : k < ls.length) (ho : LocOk (ls.getD k (0, 0, 0))) : Seen ls (k + 1) (s + (ls.getD k (0, 0, 0)).2.2) := by
  unfold Seen
  rw [take_lc ls k hk]
  refine ⟨fun l hl => ?_, ?_⟩
  · rcases List.mem_append.1 hl with hl | hl
    · exact h.1 l hl
    · rw [List.mem_singleton] at hl
      rw [hl]; exact ho
  · rw [sumN_append, h.2]
    simp [sumN]
theorem Seen.ill {ls : List Lc} {k : Nat} (hk : k < ls.length) (ho : ¬ LocOk (ls.getD k (0, 0, 0))) (z : Int) : ¬ LocsOk ls z := fun h => ho (h.2.1 _ (by
  rw [List.getD_eq_getElem?_getD, List.getElem?_eq_getElem hk]
  exact List.getElem_mem hk))
theorem Seen.all {ls : List Lc} {s : Int} (h : Seen ls ls.length s) (hn : ls.length ≤ 512) (z : Int) : LocsOk ls z ↔ s = z := by
  obtain ⟨h1, h2⟩ := h
  rw [List.take_length] at h1 h2
  exact ⟨fun h => h2 ▸ h.2.2, fun h => ⟨hn, h1, h2.trans h⟩⟩
theorem sum_bound {ls : List Lc} (h : ∀ l ∈ ls, LocOk l) : 0 ≤ sumN ls ∧ sumN ls ≤ 4096 * (ls.length : Int) := by
  induction ls with
  | nil => simp [sumN]
  | cons l ls ih =>
    have h1 := h l (by simp)
    have h2 := ih fun x hx => h x (by simp [hx])
    unfold LocOk at h1
    rw [sumN, List.length_cons]
    omega
theorem Seen.bound {ls : List Lc} {k : Nat} {s : Int} (h : Seen ls k s) : 0 ≤ s ∧ s ≤ 4096 * (k : Int) := by
  have h1 := sum_bound h.1
  rw [h.2, List.length_take] at h1
  have : ((min k ls.length : Nat) : Int) ≤ k := by omega
  omega
end Go.Proofs.Ytmfhpfehphbklaa
