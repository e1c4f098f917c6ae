/-
  What came in: a list of numbers of two bytes.
-/
import Derived.Test.YtfopiifchcaciaaCame
import Derived.Test.YtfopiifchcaciaaSeat
namespace Go.Proofs.Ytfopiifchcaciaa
open Go.ChangeShapes Go.WideShapes Go.ChangeAt Go.RowKit

def u16V (x : Nat) : Value := .int .u16 (x : Int)
/-- A slice of numbers of two bytes, as functions are handed it. -/
structure Nums (w : World) (A : Option Addr) (n c : Nat) (xs : List Nat) : Prop where
  row : Row w w.heap.size A n (xs.map u16V)
  cap : n ≤ c
  bare : A = none → c = 0
  small : ∀ x ∈ xs, x < 65536
theorem Nums.len {w : World} {A : Option Addr} {n c : Nat} {xs : List Nat} (h : Nums w A n c xs) : xs.length = n := by have := h.row.len; simpa using this
theorem Nums.grow {w w' : World} {A : Option Addr} {n c : Nat} {xs : List Nat} (hg : Grows w w') (h : Nums w A n c xs) : Nums w' A n c xs := ⟨hg.row h.row, h.cap, h.bare, h.small⟩
theorem Nums.get {w : World} {A : Option Addr} {n c : Nat} {xs : List Nat} (h : Nums w A n c xs) {j : Nat} (hj : j < n) :
    ∃ (ad : Addr) (x : Nat), A = some ad ∧ w.cell? (ad.add j) = some (.int .u16 (x : Int)) ∧ xs[j]? = some x ∧ x < 65536 ∧ ad.block < w.heap.size := by
  have hl := h.len
  have hx : xs[j]? = some xs[j] := List.getElem?_eq_getElem (by omega)
  obtain ⟨ad, hA, hb, hc⟩ := h.row.spot j (u16V xs[j]) (by rw [List.getElem?_map, hx]; rfl)
  exact ⟨ad, xs[j], hA, hc, hx, h.small _ (List.getElem_mem _), hb⟩

section
variable {H : Type} {enc : TypeId × Value → H} {P : Program} {W : World} {base : Nat} {r : Reach}
theorem open_nums {t e : TypeId} {v : Value} {d : DataW H} {p : List MemPlace} (ht : P.underlying t = some (.slice e)) (he : P.underlying e = some (.int .u16)) (hc : P.cellsOf e = 1)
    (hv : Value.okWide P W r base t v) (h : DataW.Trod enc P W 0 (fun _ => true) true t v d p) : ∃ A n c xs, v = .slice A n c ∧ Nums W A n c xs := by
  obtain ⟨A, n, c, rfl⟩ := okWide_slice ht hv
  obtain ⟨fuel, hf⟩ := h
  rcases open_ints ht he hc hf with ⟨hcs, _⟩ | ⟨x, l, c', zs, hcs, _, hl, hm, hz, hx, hcell, hwz⟩
  · simp [Value.cells] at hcs
    obtain ⟨rfl, rfl, rfl⟩ := hcs
    exact ⟨none, 0, 0, [], rfl, Row.nil _ _ _, Nat.le_refl _, fun _ => rfl, fun s hs => by simp at hs⟩
  · simp [Value.cells] at hcs
    obtain ⟨rfl, rfl, rfl⟩ := hcs
    have hz' : zs.length = c := by simpa using hz
    refine ⟨some x, n, c, (zs.take n).map Int.toNat, rfl, ⟨?_, fun k v hk => ?_⟩, hl, (fun h => by cases h), fun s hs => ?_⟩
    · rw [List.length_map, List.length_map, List.length_take]
      omega
    · rw [List.map_map, List.getElem?_map, List.getElem?_take] at hk
      split at hk
      · rename_i hkn
        have hkz : k < zs.length := by omega
        rw [List.getElem?_eq_getElem hkz] at hk
        have hcl := hcell k hkz
        refine ⟨x, rfl, by have := World.block_lt_of_cell? W _ hcl; rwa [add_block] at this, ?_⟩
        have hw := bounds_u16 (hwz zs[k] (List.getElem_mem hkz))
        have hv' : v = .int .u16 zs[k] := by
          simp only [Option.map_some, Function.comp, Option.some.injEq] at hk
          rw [← hk, u16V, Int.toNat_of_nonneg hw.1]
        rw [hcl, hv', List.getD_eq_getElem?_getD, List.getElem?_eq_getElem hkz]
        rfl
      · cases hk
    · obtain ⟨q, hq, rfl⟩ := List.mem_map.1 hs
      have := bounds_u16 (hwz q (List.mem_of_mem_take hq))
      omega
end
end Go.Proofs.Ytfopiifchcaciaa
