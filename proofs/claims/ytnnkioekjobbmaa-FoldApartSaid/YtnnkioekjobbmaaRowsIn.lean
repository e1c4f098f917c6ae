/-
  A slice of slices of bytes that came in: what a walk is told of it.
-/
import Derived.Test.YtnnkioekjobbmaaCame
import Derived.Deep.Matrix
namespace Go.Proofs.Ytnnkioekjobbmaa
open Go.ChangeShapes Go.WideShapes Go.ChangeAt Go.RowKit

/-- A slice as a value. -/
def slV (h : Option Addr × Nat × Nat) : Value := .slice h.1 h.2.1 h.2.2
/-- A slice of slices of bytes reads as these. -/
structure Lists (w : World) (A : Option Addr) (n c : Nat) (ls : List (List UInt8)) : Prop where
  len : ls.length = n
  cap : n ≤ c
  bare : A = none → c = 0
  rows : ∃ hs : List (Option Addr × Nat × Nat), Row w w.heap.size A n (hs.map slV) ∧ ∀ (i : Nat) (h : Option Addr × Nat × Nat) (l : List UInt8), hs[i]? = some h → ls[i]? = some l → Sl w h.1 h.2.1 h.2.2 l

theorem Lists.grow {w w' : World} {A : Option Addr} {n c : Nat} {ls : List (List UInt8)} (hg : Grows w w') (h : Lists w A n c ls) : Lists w' A n c ls := by
  obtain ⟨h1, h2, h3, hs, hr, hq⟩ := h
  exact ⟨h1, h2, h3, hs, hg.row hr, fun i x l hx hl => (hq i x l hx hl).grow hg⟩

/-- Row i of it, as it stands in memory. -/
theorem Lists.get {w : World} {A : Option Addr} {n c : Nat} {ls : List (List UInt8)} (h : Lists w A n c ls) {i : Nat} (hi : i < n) :
    ∃ ad B m d, A = some ad ∧ ad.block < w.heap.size ∧ w.cell? (ad.add i) = some (.slice B m d) ∧ Sl w B m d (ls.getD i []) := by
  obtain ⟨h1, _, _, hs, hr, hq⟩ := h
  have hl : hs.length = n := by have := hr.len; simpa using this
  have hx : hs[i]? = some hs[i] := List.getElem?_eq_getElem (by omega)
  obtain ⟨ad, hA, hb, hc⟩ := hr.spot i (slV hs[i]) (by rw [List.getElem?_map, hx]; rfl)
  refine ⟨ad, hs[i].1, hs[i].2.1, hs[i].2.2, hA, hb, hc, ?_⟩
  have hl' : ls[i]? = some (ls.getD i []) := by
    rw [List.getElem?_eq_getElem (by omega)]
    simp [show i < ls.length by omega]
  exact hq i _ _ hx hl'

section
variable {H : Type} {enc : TypeId × Value → H} {P : Program} {W : World} {base : Nat} {r : Reach}
theorem open_rows {t e q : TypeId} {v : Value} {d : DataW H} {p : List MemPlace} (ht : P.underlying t = some (.slice e)) (he : P.underlying e = some (.slice q)) (hq : P.underlying q = some (.int .u8)) (ce : P.cellsOf e = 1) (cq : P.cellsOf q = 1)
    (hby : P.bytesOf e = 24) (hv : Value.okWide P W r base t v) (h : DataW.Trod enc P W 0 (fun _ => true) true t v d p) {ts : List TypeId} {ds : List (DataW H)} (hsz : (DataW.weightsEach P ts ds).all (· ≤ reachBytes) = true) {j : Nat}
    (hj : ts[j]? = some t) (hd : ds[j]? = some d) : ∃ A n c ls, v = .slice A n c ∧ Lists W A n c ls ∧ c ≤ 140737488351232 := by
  obtain ⟨A, n, c, rfl⟩ := okWide_slice ht hv
  obtain ⟨fuel, hf⟩ := h
  rcases Go.Deep.open_int_rows ht he hq ce cq hf with ⟨hcs, _⟩ | ⟨x, l, c', B, L, C, Z, hcs, _, hl, hm, hx, hrow⟩
  · simp [Value.cells] at hcs
    obtain ⟨rfl, rfl, rfl⟩ := hcs
    exact ⟨none, 0, 0, [], rfl, ⟨rfl, Nat.le_refl _, fun _ => rfl, [], Row.nil _ _ _, fun i h l hh => by simp at hh⟩, by omega⟩
  · simp [Value.cells] at hcs
    obtain ⟨rfl, rfl, rfl⟩ := hcs
    simp only [Prod.mk.injEq] at hx
    have hs := sized_slice hsz hj (hd.trans (by rw [hx.1])) ht
    rw [hby] at hs
    simp only [List.length_map, List.length_range, reachBytes] at hs
    have key : ∀ i, i < c → Sl W (B i) (L i) (C i) (((Z i).take (L i)).map fun z => UInt8.ofNat z.toNat) := fun i hi => by
      obtain ⟨_, h2, _, h4, h5, h6, h7⟩ := hrow i hi
      refine ⟨⟨by simp; omega, fun k v hk => ?_⟩, h2, h6⟩
      rw [List.map_map, List.getElem?_map, List.getElem?_take] at hk
      split at hk
      · rename_i hkn
        have hkz : k < (Z i).length := by omega
        rw [List.getElem?_eq_getElem hkz] at hk
        rcases hB : B i with _ | a'
        · have := h6 hB; omega
        · obtain ⟨_, h8⟩ := h7 a' hB
          have h9 := h8 k (by omega)
          refine ⟨a', rfl, by have := World.block_lt_of_cell? W _ h9; rwa [add_block] at this, ?_⟩
          have hw := u8_of_wf (h5 (Z i)[k] (List.getElem_mem hkz))
          have hv' : v = byteV (UInt8.ofNat (Z i)[k].toNat) := by
            simp only [Option.map_some, Function.comp, Option.some.injEq] at hk
            exact hk.symm
          rw [h9, hv', byteV, hw, List.getD_eq_getElem?_getD, List.getElem?_eq_getElem hkz]
          rfl
      · cases hk
    refine ⟨some x, n, c, (List.range n).map fun i => ((Z i).take (L i)).map fun z => UInt8.ofNat z.toNat, rfl, ⟨by simp, hl, (fun h => by cases h), (List.range n).map fun i => (B i, L i, C i), ⟨by simp, fun k v hk => ?_⟩, fun i h l hh hl' => ?_⟩, by omega⟩
    · rw [List.map_map, List.getElem?_map] at hk
      rcases Nat.lt_or_ge k n with hkn | hkn
      · rw [List.getElem?_range hkn] at hk
        simp only [Option.map_some, Function.comp, Option.some.injEq] at hk
        have h9 := (hrow k (by omega)).1
        exact ⟨x, rfl, by have := World.block_lt_of_cell? W _ h9; rwa [add_block] at this, by rw [h9, ← hk]; rfl⟩
      · rw [List.getElem?_eq_none (by simpa using hkn)] at hk; cases hk
    · rw [List.getElem?_map] at hh hl'
      rcases Nat.lt_or_ge i n with hin | hin
      · rw [List.getElem?_range hin] at hh hl'
        simp only [Option.map_some, Option.some.injEq] at hh hl'
        subst hh hl'
        exact key i (by omega)
      · rw [List.getElem?_eq_none (by simpa using hin)] at hh; cases hh
end
end Go.Proofs.Ytnnkioekjobbmaa
