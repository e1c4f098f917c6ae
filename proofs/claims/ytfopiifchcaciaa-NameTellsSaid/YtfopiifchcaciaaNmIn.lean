/-
  What came in: a text, a list of texts.
-/
import Derived.Test.YtfopiifchcaciaaNmSeg
import Derived.Test.YtfopiifchcaciaaCame
import Derived.Test.YtfopiifchcaciaaNums
import Derived.Test.YtfopiifchcaciaaSeat
import Derived.SliceStrings
import Derived.ChangeMaps5
namespace Go.Proofs.Ytfopiifchcaciaa
open Go.ChangeMaps Go.ChangeShapes Go.WideShapes Go.ChangeAt Go.RowKit

section
variable {H : Type} {enc : TypeId × Value → H} {P : Program} {W : World} {base : Nat} {r : Reach}
theorem open_text {t : TypeId} {v : Value} {d : DataW H} {p : List MemPlace} (ht : P.underlying t = some .string)
    (hv : Value.okWide P W r base t v) (h : DataW.Trod enc P W 0 (fun _ => true) true t v d p) : ∃ l : List UInt8, v = .string ⟨l.toArray⟩ ∧ l.length ≤ 9223372036854775807 := by
  obtain ⟨s, rfl, _, _, hs⟩ := open_string ht hv h
  have e : s.data.toList.length = s.size := Array.length_toList
  unfold maxLen at hs
  exact ⟨s.data.toList, by simp, by omega⟩
theorem open_texts {t e : TypeId} {v : Value} {d : DataW H} {p : List MemPlace} (ht : P.underlying t = some (.slice e)) (he : P.underlying e = some .string) (hc : P.cellsOf e = 1)
    (hv : Value.okWide P W r base t v) (h : DataW.Trod enc P W 0 (fun _ => true) true t v d p) : ∃ A n c ls, v = .slice A n c ∧ Strs W A n c ls := by
  obtain ⟨A, n, c, rfl⟩ := okWide_slice ht hv
  obtain ⟨fuel, hf⟩ := h
  rcases open_strings ht he hc hf with ⟨hcs, _⟩ | ⟨x, l, c', ss, hcs, _, hl, hm, hz, hx, hcell, hwz⟩
  · simp [Value.cells] at hcs
    obtain ⟨rfl, rfl, rfl⟩ := hcs
    exact ⟨none, 0, 0, [], rfl, Row.nil _ _ _, Nat.le_refl _, fun _ => rfl, fun s hs => by simp at hs⟩
  · simp [Value.cells] at hcs
    obtain ⟨rfl, rfl, rfl⟩ := hcs
    have hz' : ss.length = c := by simpa using hz
    refine ⟨some x, n, c, (ss.take n).map (fun s => s.data.toList), rfl, ⟨?_, fun k v hk => ?_⟩, hl, (fun h => by cases h), fun s hs => ?_⟩
    · rw [List.length_map, List.length_map, List.length_take]
      omega
    · rw [List.map_map, List.getElem?_map, List.getElem?_take] at hk
      split at hk
      · rename_i hkn
        have hkz : k < ss.length := by omega
        rw [List.getElem?_eq_getElem hkz] at hk
        have hcl := hcell k hkz
        refine ⟨x, rfl, by have := World.block_lt_of_cell? W _ hcl; rwa [add_block] at this, ?_⟩
        have hv' : v = .string ss[k] := by
          simp only [Option.map_some, Function.comp, Option.some.injEq] at hk
          rw [← hk]
          simp [strV]
        rw [hcl, hv', List.getD_eq_getElem?_getD, List.getElem?_eq_getElem hkz]
        rfl
      · cases hk
    · obtain ⟨q, hq, rfl⟩ := List.mem_map.1 hs
      have := hwz q (List.mem_of_mem_take hq)
      have e : q.data.toList.length = q.size := Array.length_toList
      unfold maxLen at this
      omega
end
end Go.Proofs.Ytfopiifchcaciaa
