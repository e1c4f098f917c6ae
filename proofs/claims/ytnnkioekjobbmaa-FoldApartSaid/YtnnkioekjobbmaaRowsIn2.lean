/-
  A slice of slices of bytes that came in, and that none of these is too long.
-/
import Derived.Test.YtnnkioekjobbmaaRowsIn
namespace Go.Proofs.Ytnnkioekjobbmaa
open Go.ChangeShapes Go.WideShapes Go.ChangeAt Go.RowKit

theorem weights_all {H : Type} {P : Program} {e : TypeId} {x : Nat} {d : DataW H} : ∀ {l : List (DataW H)}, d ∈ l → x ∈ d.weights P e → x ∈ DataW.weightsAll P e l
  | _ :: _, h, hx => by
    unfold DataW.weightsAll
    rcases List.mem_cons.1 h with rfl | h
    · exact List.mem_append_left _ hx
    · exact List.mem_append_right _ (weights_all h hx)

section
variable {H : Type} {enc : TypeId × Value → H} {P : Program} {W : World} {base : Nat} {r : Reach}
theorem open_rows2 {t e q : TypeId} {v : Value} {d : DataW H} {p : List MemPlace} (ht : P.underlying t = some (.slice e)) (he : P.underlying e = some (.slice q)) (hq : P.underlying q = some (.int .u8)) (ce : P.cellsOf e = 1) (cq : P.cellsOf q = 1)
    (hby : P.bytesOf e = 24) (hbq : P.bytesOf q = 1) (hv : Value.okWide P W r base t v) (h : DataW.Trod enc P W 0 (fun _ => true) true t v d p) {ts : List TypeId} {ds : List (DataW H)} (hsz : (DataW.weightsEach P ts ds).all (· ≤ reachBytes) = true) {j : Nat}
    (hj : ts[j]? = some t) (hd : ds[j]? = some d) : ∃ A n c ls, v = .slice A n c ∧ Lists W A n c ls ∧ c ≤ 140737488351232 ∧ ∀ l ∈ ls, l.length ≤ 140737488351232 := by
  obtain ⟨A, n, c, rfl⟩ := okWide_slice ht hv
  obtain ⟨fuel, hf⟩ := h
  rcases Go.Deep.open_int_rows ht he hq ce cq hf with ⟨hcs, _⟩ | ⟨x, l, c', B, L, C, Z, hcs, _, hl, hm, hx, hrow⟩
  · simp [Value.cells] at hcs
    obtain ⟨rfl, rfl, rfl⟩ := hcs
    exact ⟨none, 0, 0, [], rfl, ⟨rfl, Nat.le_refl _, fun _ => rfl, [], Row.nil _ _ _, fun i h l hh => by simp at hh⟩, by omega, fun l hl => by simp at hl⟩
  · simp [Value.cells] at hcs
    obtain ⟨rfl, rfl, rfl⟩ := hcs
    simp only [Prod.mk.injEq] at hx
    have hsz' := hsz
    have hs := sized_slice hsz hj (hd.trans (by rw [hx.1])) ht
    rw [hby] at hs
    simp only [List.length_map, List.length_range, reachBytes] at hs
    have hC : ∀ i, i < n → C i ≤ 140737488351232 := fun i hi => by
      obtain ⟨_, _, _, h4, _, h6, _⟩ := hrow i (by omega)
      rcases hB : B i with _ | a'
      · have := h6 hB; omega
      · have hm : C i ∈ DataW.weightsEach P ts ds := by
          refine DataW.weights_mem_each hj (hd.trans (by rw [hx.1])) _ ?_
          simp only [DataW.weights, ht]
          refine List.mem_cons_of_mem _ (List.mem_append_left _ (weights_all (List.mem_map.2 ⟨i, List.mem_range.2 hi, rfl⟩) ?_))
          rw [hB]
          simp only [Go.Deep.intRow, DataW.weights, he]
          refine List.mem_cons.2 (.inl ?_)
          rw [hbq, Nat.mul_one]
          simp only [lits, List.length_map, List.length_take, List.length_drop]
          omega
        have := List.all_eq_true.1 hsz' _ hm
        have h2 : C i ≤ reachBytes := by simpa using this
        unfold reachBytes at h2
        omega
    have key : ∀ i, i < c → Sl W (B i) (L i) (C i) (((Z i).take (L i)).map fun z => UInt8.ofNat z.toNat) := fun i hi => by
      obtain ⟨_, h2, _, h4, h5, h6, h7⟩ := hrow i hi
      refine ⟨⟨by simp; omega, fun k v hk => ?_⟩, h2, h6⟩
      rw [List.map_map, List.getElem?_map, List.getElem?_take] at hk
      split at hk
      · rename_i hkn
        have hkz : k < (Z i).length := by omega
        rw [List.getElem?_eq_getElem hkz] at hk
        rcases hB : B i with _ | a'
        · have := h6 hB; omega
        · obtain ⟨_, h8⟩ := h7 a' hB
          have h9 := h8 k (by omega)
          refine ⟨a', rfl, by have := World.block_lt_of_cell? W _ h9; rwa [add_block] at this, ?_⟩
          have hw := u8_of_wf (h5 (Z i)[k] (List.getElem_mem hkz))
          have hv' : v = byteV (UInt8.ofNat (Z i)[k].toNat) := by
            simp only [Option.map_some, Function.comp, Option.some.injEq] at hk
            exact hk.symm
          rw [h9, hv', byteV, hw, List.getD_eq_getElem?_getD, List.getElem?_eq_getElem hkz]
          rfl
      · cases hk
    refine ⟨some x, n, c, (List.range n).map fun i => ((Z i).take (L i)).map fun z => UInt8.ofNat z.toNat, rfl, ⟨by simp, hl, (fun h => by cases h), (List.range n).map fun i => (B i, L i, C i), ⟨by simp, fun k v hk => ?_⟩, fun i h l hh hl' => ?_⟩, by omega, fun l hl => ?_⟩
    · rw [List.map_map, List.getElem?_map] at hk
      rcases Nat.lt_or_ge k n with hkn | hkn
      · rw [List.getElem?_range hkn] at hk
        simp only [Option.map_some, Function.comp, Option.some.injEq] at hk
        have h9 := (hrow k (by omega)).1
        exact ⟨x, rfl, by have := World.block_lt_of_cell? W _ h9; rwa [add_block] at this, by rw [h9, ← hk]; rfl⟩
      · rw [List.getElem?_eq_none (by simpa using hkn)] at hk; cases hk
    · rw [List.getElem?_map] at hh hl'
      rcases Nat.lt_or_ge i n with hin | hin
      · rw [List.getElem?_range hin] at hh hl'
        simp only [Option.map_some, Option.some.injEq] at hh hl'
        subst hh hl'
        exact key i (by omega)
      · rw [List.getElem?_eq_none (by simpa using hin)] at hh; cases hh
    · obtain ⟨i, hi, rfl⟩ := List.mem_map.1 hl
      have h1 := hC i (List.mem_range.1 hi)
      obtain ⟨_, h2, _, h4, _⟩ := hrow i (by have := List.mem_range.1 hi; omega)
      rw [List.length_map, List.length_take]
      omega
end
end Go.Proofs.Ytnnkioekjobbmaa
