/-
  Calls of a cutter that came in, as a list; are they too much?
-/
import Derived.Test.YtlcpbkbojjpfaaaCutSt
import Derived.Deep.SlicePairs
namespace Go.Proofs.Ytlcpbkbojjpfaaa
open Go.ChangeShapes Go.WideShapes Go.ChangeAt Go.RowKit
set_option linter.unusedVariables false

theorem add_one (a : Addr) : a.add 1 = ⟨a.block, a.off + 1, none⟩ := rfl
/-- A list of calls, as functions are handed it. -/
structure Ops (w : World) (A : Option Addr) (n c : Nat) (os : List (Int × List UInt8)) : Prop where
  len : os.length = n
  cap : n ≤ c
  spot : ∀ i, i < n → ∃ (ad : Addr) (B : Option Addr) (m d : Nat), A = some ad ∧ ad.block < w.heap.size ∧ w.cell? (ad.add (i * 2)) = some (.int .i64 (os.getD i (0, [])).1) ∧ w.cell? (ad.add (i * 2 + 1)) = some (.slice B m d) ∧ Sl w B m d (os.getD i (0, [])).2
/-- How many bytes these have. -/
def opsLen (os : List (Int × List UInt8)) : Nat := (os.map fun o => o.2.length).sum
def opsMin (os : List (Int × List UInt8)) : Nat := (os.map fun o => min o.2.length 20000).sum
theorem opsLen_one {os : List (Int × List UInt8)} {i : Nat} (h : i < os.length) : opsLen (os.take (i + 1)) = opsLen (os.take i) + (os.getD i (0, [])).2.length := by
  unfold opsLen
  rw [List.take_add_one, List.getElem?_eq_getElem h, List.map_append, List.sum_append]
  simp [h]
theorem opsMin_one {os : List (Int × List UInt8)} {i : Nat} (h : i < os.length) : opsMin (os.take (i + 1)) = opsMin (os.take i) + min (os.getD i (0, [])).2.length 20000 := by
  unfold opsMin
  rw [List.take_add_one, List.getElem?_eq_getElem h, List.map_append, List.sum_append]
  simp [h]
theorem opsLen_take (os : List (Int × List UInt8)) (i : Nat) : opsLen (os.take i) ≤ opsLen os := by
  unfold opsLen
  conv => rhs; rw [← List.take_append_drop i os, List.map_append, List.sum_append]
  omega
theorem opsMin_small : ∀ {os : List (Int × List UInt8)}, opsMin os < 20000 → opsLen os = opsMin os
  | [], _ => rfl
  | o :: os, h => by
    unfold opsMin at h
    rw [List.map_cons, List.sum_cons] at h
    have h2 : opsMin os < 20000 := by unfold opsMin; omega
    have := opsMin_small h2
    unfold opsLen opsMin at *
    rw [List.map_cons, List.sum_cons, List.map_cons, List.sum_cons, this]
    omega

section
variable {H : Type} {enc : TypeId × Value → H} {W : World} {base : Nat} {r : Reach}
theorem open_slC {m : Nat} {a : Value} {x : DataW H × List MemPlace} (h : DataW.trod enc Try.prog W 0 (fun _ => true) true m 23 [a] = some x) : ∃ A n c bs, a = .slice A n c ∧ Sl W A n c bs := by
  rcases open_ints Try.underlying23 Try.underlying5 (by kernel_rfl) h with ⟨hcs, _⟩ | ⟨x, l, c, zs, hcs, _, hl, hm, hz, _, hcell, hwz⟩
  · simp at hcs
    exact ⟨none, 0, 0, [], hcs, Sl.nil _⟩
  · simp at hcs
    have hz' : zs.length = c := by simpa using hz
    refine ⟨some x, l, c, (zs.take l).map (fun z => UInt8.ofNat z.toNat), hcs, ⟨?_, ?_⟩, hl, fun h => by cases h⟩
    · rw [List.length_map, List.length_map, List.length_take]
      omega
    · intro k v hk
      rw [List.map_map, List.getElem?_map, List.getElem?_take] at hk
      split at hk
      · rename_i hkn
        have hkz : k < zs.length := by omega
        rw [List.getElem?_eq_getElem hkz] at hk
        have hcl := hcell k hkz
        refine ⟨x, rfl, by have := World.block_lt_of_cell? W _ hcl; rwa [add_block] at this, ?_⟩
        have hw := u8_of_wf (hwz zs[k] (List.getElem_mem hkz))
        have hv' : v = byteV (UInt8.ofNat zs[k].toNat) := by
          simp only [Option.map_some, Function.comp, Option.some.injEq] at hk
          exact hk.symm
        rw [hcl, hv', byteV, hw, List.getD_eq_getElem?_getD, List.getElem?_eq_getElem hkz]
        rfl
      · cases hk
set_option maxRecDepth 100000 in
theorem open_ops {v : Value} {d : DataW H} {p : List MemPlace} (hv : Value.okWide Try.prog W r base 42 v) (h : DataW.Trod enc Try.prog W 0 (fun _ => true) true 42 v d p) :
    ∃ A n c os, v = .slice A n c ∧ Ops W A n c os := by
  obtain ⟨A, n, c, rfl⟩ := okWide_slice Try.underlying42 hv
  obtain ⟨fuel, hf⟩ := h
  rcases Go.Deep.open_slice_pairs Try.underlying42 Try.underlying49 (by kernel_rfl) rfl rfl (by kernel_rfl) (by kernel_rfl) hf with ⟨hcs, _⟩ | ⟨a, len, cap, m, k, V0, V1, D0, D1, P0, P1, hcs, _, hl, hm, hmm, hx, hel⟩
  · simp [Value.cells] at hcs
    obtain ⟨rfl, rfl, rfl⟩ := hcs
    exact ⟨none, 0, 0, [], rfl, ⟨rfl, Nat.le_refl _, fun i hi => absurd hi (Nat.not_lt_zero i)⟩⟩
  · simp [Value.cells] at hcs
    obtain ⟨rfl, rfl, rfl⟩ := hcs
    simp only [if_true] at hmm
    subst hmm
    have each : ∀ i, i < n → ∃ q : (Int × List UInt8) × (Option Addr × Nat × Nat), W.cell? (a.add (i * 2)) = some (.int .i64 q.1.1) ∧ W.cell? (a.add (i * 2 + 1)) = some (.slice q.2.1 q.2.2.1 q.2.2.2) ∧ Sl W q.2.1 q.2.2.1 q.2.2.2 q.1.2 := by
      intro i hi
      obtain ⟨e0, e1, t0, t1⟩ := hel i (by omega)
      obtain ⟨z, hz, _⟩ := DataW.trod_int Try.underlying3 t0
      obtain ⟨B, bn, bc, bs, hb, hs⟩ := open_slC t1
      simp at hz
      rw [hz] at e0
      rw [hb] at e1
      exact ⟨((z, bs), (B, bn, bc)), e0, e1, hs⟩
    obtain ⟨f, hf⟩ := Go.Deep.choose_lt each
    refine ⟨some a, n, m, (List.range n).map fun i => (f i).1, rfl, ⟨by simp, hl, fun i hi => ?_⟩⟩
    obtain ⟨c0, c1, c2⟩ := hf i hi
    have hg : ((List.range n).map fun i => (f i).1).getD i (0, []) = (f i).1 := by
      rw [List.getD_eq_getElem?_getD, List.getElem?_map, List.getElem?_range hi]
      rfl
    rw [hg]
    exact ⟨a, (f i).2.1, (f i).2.2.1, (f i).2.2.2, rfl, by have := World.block_lt_of_cell? W _ c0; rwa [add_block] at this, c0, c1, c2⟩
end
end Go.Proofs.Ytlcpbkbojjpfaaa
