/-
  Rows of numbers that come in, or that a call has made, of ints.
-/
import Derived.Test.YtdkpbphgaenlnaaGreatCame
import Derived.Test.YtdkpbphgaenlnaaGreatSteps
import Derived.Lib.Hide
import Derived.LoopTactic
import Derived.IntWalk
import Derived.WalkLawsBesides

namespace Go.Proofs.YtdkpbphgaenlnaaGreat
open Go.ChangeShapes Go.WideShapes Go.ChangeAt Go.RowKit
set_option linter.unusedVariables false

def iV (x : Int) : Value := .int .i64 x
theorem infoI : (Tryz.prog.info? 3).map (fun i => (i.zero, i.size, i.bytes)) = some (some (.int .i64 0), 1, 8) := by kernel_rfl
theorem iV_one (xs : List Int) : ∀ u ∈ xs.map iV, u.oneCell' = true := by
  intro u hu
  obtain ⟨b, _, rfl⟩ := List.mem_map.1 hu
  rfl
/-- A slice of numbers. -/
structure Ints (w : World) (A : Option Addr) (n c : Nat) (xs : List Int) : Prop where
  row : Row w w.heap.size A n (xs.map iV)
  cap : n ≤ c
  bare : A = none → c = 0
theorem Ints.len {w : World} {A : Option Addr} {n c : Nat} {xs : List Int} (h : Ints w A n c xs) : xs.length = n := by have := h.row.len; simpa using this
theorem Ints.grow {w w' : World} {A : Option Addr} {n c : Nat} {xs : List Int} (h : Ints w A n c xs) (hg : Grows w w') : Ints w' A n c xs := ⟨hg.row h.row, h.cap, h.bare⟩
theorem Ints.get {w : World} {A : Option Addr} {n c : Nat} {xs : List Int} (h : Ints w A n c xs) {j : Nat} (hj : j < n) : ∃ ad x, A = some ad ∧ w.cell? (ad.add j) = some (.int .i64 x) ∧ xs[j]? = some x ∧ ad.block < w.heap.size := by
  have hl := h.len
  have hx : xs[j]? = some xs[j] := List.getElem?_eq_getElem (by omega)
  obtain ⟨ad, hA, hb, hc⟩ := h.row.spot j (iV xs[j]) (by rw [List.getElem?_map, hx]; rfl)
  exact ⟨ad, xs[j], hA, hc, hx, hb⟩
theorem Ints.owned {w : World} {base n c : Nat} {A : Option Addr} {xs : List Int} (h : w.ownsRow base 3 1 (.slice A n c) n (xs.map iV)) : Ints w A n c xs := by
  refine ⟨Row.owned h, ?_, ?_⟩
  · rcases h.2 with ⟨h1, h2⟩ | ⟨g, cap, _, h1, _, _, h2, _⟩
    · omega
    · injection h1 with _ _ h1; omega
  · intro hA
    rcases h.2 with ⟨h1, h2⟩ | ⟨g, cap, _, h1, _⟩
    · injection h1
    · injection h1 with h1 _ _; rw [hA] at h1; cases h1
/-- A literal. -/
theorem Ints.lit {w : World} {g t : Nat} {cs : Array Value} (h : Whole w g t cs) (xs : List Int) {n : Nat} (he : cs = (xs.map iV).toArray) (hn : xs.length = n) : Ints w (some ⟨g, 0, none⟩) n n xs :=
  ⟨⟨by simpa using hn, fun k v hv => ⟨⟨g, 0, none⟩, rfl, h.lt, by
    rw [show (⟨g, 0, none⟩ : Addr).add k = ⟨g, k, none⟩ by unfold Addr.add; split <;> simp_all, h.cell k, he]
    simpa using hv⟩⟩, Nat.le_refl _, fun h => by cases h⟩

section
variable {H : Type} {enc : TypeId × Value → H} {P : Program} {W : World} {base : Nat} {r : Reach}
theorem open_i64s {t e : TypeId} {v : Value} {d : DataW H} {p : List MemPlace} (ht : P.underlying t = some (.slice e)) (he : P.underlying e = some (.int .i64)) (hc : P.cellsOf e = 1)
    (hv : Value.okWide P W r base t v) (h : DataW.Trod enc P W 0 (fun _ => true) true t v d p) : ∃ A n c xs, v = .slice A n c ∧ Ints W A n c xs := by
  obtain ⟨A, n, c, rfl⟩ := okWide_slice ht hv
  obtain ⟨fuel, hf⟩ := h
  rcases open_ints ht he hc hf with ⟨hcs, _⟩ | ⟨x, l, c', zs, hcs, _, hl, hm, hz, hx, hcell, hwz⟩
  · simp [Value.cells] at hcs
    obtain ⟨rfl, rfl, rfl⟩ := hcs
    exact ⟨none, 0, 0, [], rfl, Row.nil _ _ _, Nat.le_refl _, fun _ => rfl⟩
  · simp [Value.cells] at hcs
    obtain ⟨rfl, rfl, rfl⟩ := hcs
    have hz' : zs.length = c := by simpa using hz
    refine ⟨some x, n, c, zs.take n, rfl, ⟨?_, fun k v hk => ?_⟩, hl, (fun h => by cases h)⟩
    · rw [List.length_map, List.length_take]
      omega
    · rw [List.getElem?_map, List.getElem?_take] at hk
      split at hk
      · rename_i hkn
        have hkz : k < zs.length := by omega
        rw [List.getElem?_eq_getElem hkz] at hk
        have hcl := hcell k hkz
        refine ⟨x, rfl, by have := World.block_lt_of_cell? W _ hcl; rwa [add_block] at this, ?_⟩
        simp only [Option.map_some, Option.some.injEq] at hk
        rw [hcl, ← hk, iV, List.getD_eq_getElem?_getD, List.getElem?_eq_getElem hkz]
        rfl
      · cases hk
end
end Go.Proofs.YtdkpbphgaenlnaaGreat
