/-
  Calls of a book that came in, as a list.
-/
import Derived.Test.YtlldcogkcjnejaaBkHead
import Derived.Test.YtlldcogkcjnejaaRows
import Derived.Test.YtlldcogkcjnejaaChecked
import Derived.Test.YtlldcogkcjnejaaFrame
import Derived.Test.YtlldcogkcjnejaaSeat
import Derived.ChangeOld
import Derived.SliceStrings
import Derived.Deep.SlicePairs
import Derived.Deep.Draws
import Derived.SizedLaws
import Derived.ChangeMaps5
namespace Go.Proofs.Ytlldcogkcjnejaa
open Go.ChangeMaps Go.ChangeShapes Go.WideShapes Go.ChangeAt Go.RowKit
set_option linter.unusedVariables false

structure O12 where
  what : Int
  seg : Int
  n : Int
  live : Bool
instance : Inhabited O12 := ⟨⟨0, 0, 0, false⟩⟩
def o12E (o : O12) : List Value := [.int .i64 o.what, .int .i64 o.seg, .int .i64 o.n, .bool o.live]
theorem o12L (o : O12) : (o12E o).length = 4 := rfl
structure O12Ok (o : O12) : Prop where
  seg : -9223372036854775808 ≤ o.seg ∧ o.seg ≤ 9223372036854775807
  n : -9223372036854775808 ≤ o.n ∧ o.n ≤ 9223372036854775807
structure Ops12 (w : World) (A : Option Addr) (n c : Nat) (os : List O12) : Prop where
  row : Rs w A n c o12E 4 os
  ok : ∀ o ∈ os, O12Ok o
theorem Ops12.grow {w w' : World} {A : Option Addr} {n c : Nat} {os : List O12} (h : Ops12 w A n c os) (hg : Grows w w') : Ops12 w' A n c os := ⟨h.row.grow hg, h.ok⟩
theorem Ops12.at {w : World} {A : Option Addr} {n c : Nat} {l : List O12} (h : Ops12 w A n c l) {i : Nat} (hi : i < n) : ∃ ad x, A = some ad ∧ l[i]? = some x ∧ ad.block < w.heap.size ∧ O12Ok x ∧
    ∀ w', Grows w w' → w'.cell? (ad.add (i * 4)) = some (.int .i64 x.what) ∧ w'.cell? { block := (ad.add (i * 4)).block, off := (ad.add (i * 4)).off + 1 } = some (.int .i64 x.seg) ∧
      w'.cell? { block := (ad.add (i * 4)).block, off := (ad.add (i * 4)).off + 2 } = some (.int .i64 x.n) ∧ w'.cell? { block := (ad.add (i * 4)).block, off := (ad.add (i * 4)).off + 3 } = some (.bool x.live) := by
  obtain ⟨ad, x, h1, h2, h3, h4⟩ := Rs.get o12L (by omega) h.row hi
  refine ⟨ad, x, h1, h2, h3, h.ok x (List.mem_of_getElem? h2), fun w' hg => ?_⟩
  have key : ∀ j u, (o12E x)[j]? = some u → w'.cell? ((ad.add (i * 4)).add j) = some u := fun j u hj => (hg.cell (by rw [add_block, add_block]; exact h3)).trans (h4 j u hj)
  have k0 := key 0 _ rfl
  have k1 := key 1 _ rfl
  have k2 := key 2 _ rfl
  have k3 := key 3 _ rfl
  rw [show (ad.add (i * 4)).add 0 = ad.add (i * 4) from by generalize ad.add (i * 4) = q; unfold Addr.add; simp] at k0
  rw [Addr.add_succ'] at k1 k2 k3
  exact ⟨k0, k1, k2, k3⟩
section
variable {H : Type} {enc : TypeId × Value → H} {W : World} {base : Nat} {r : Reach}
theorem rs_ofB {α : Type} [Inhabited α] {e : α → List Value} {k : Nat} (hk : ∀ a, (e a).length = k) {ad : Addr} {n c : Nat} (hc : n ≤ c) (f : Nat → α) (h : ∀ i, i < n → ∀ j, j < k → W.cell? ((ad.add (i * k)).add j) = (e (f i))[j]?) :
    Rs W (some ad) n c e k ((List.range n).map f) := by
  refine ⟨by simp, hc, (fun h => by cases h), ?_, ?_⟩
  · rw [flat_length hk]
    simp [Nat.mul_comm]
  · intro j v hj
    have hjl : j < (((List.range n).map f).flatMap e).length := (List.getElem?_eq_some_iff.1 hj).1
    rw [flat_length hk] at hjl
    simp only [List.length_map, List.length_range] at hjl
    have hk0 : 0 < k := by
      rcases Nat.eq_zero_or_pos k with h0 | h0
      · subst h0; omega
      · exact h0
    have hq : j / k < n := Nat.div_lt_of_lt_mul (by rw [Nat.mul_comm]; exact hjl)
    have hm : j % k < k := Nat.mod_lt _ hk0
    have hdm : j / k * k + j % k = j := by rw [Nat.mul_comm]; exact Nat.div_add_mod j k
    have h1 := flat_get hk ((List.range n).map f) (j / k) (j % k) (f (j / k)) (by rw [List.getElem?_map, List.getElem?_range hq]; rfl) hm
    rw [hdm, hj] at h1
    have h2 := h (j / k) hq (j % k) hm
    rw [← h1, add_twice, hdm] at h2
    exact ⟨ad, rfl, by have := World.block_lt_of_cell? W _ h2; rwa [add_block] at this, h2⟩
set_option maxRecDepth 100000 in
theorem open_ops12 {v : Value} {d : DataW H} {p : List MemPlace} (hv : Value.okWide Try.prog W r base 22 v) (h : DataW.Trod enc Try.prog W 0 (fun _ => true) true 22 v d p) :
    ∃ A n c os, v = .slice A n c ∧ Ops12 W A n c os := by
  obtain ⟨A, n, c, rfl⟩ := okWide_slice Try.underlying22 hv
  obtain ⟨fuel, hf⟩ := h
  have ce : Try.prog.cellsOf 29 = 4 := by kernel_rfl
  have c_int : Try.prog.cellsOf 3 = 1 := by kernel_rfl
  have c_i64 : Try.prog.cellsOf 2 = 1 := by kernel_rfl
  have c_bool : Try.prog.cellsOf 4 = 1 := by kernel_rfl
  rcases DataW.trod_slice Try.underlying22 hf with ⟨hcs, _⟩ | ⟨ad, len, cap, elems, rest, k, _, hcs, hxd, _, hl, hmx, hlen, hel, _⟩
  · simp [Value.cells] at hcs
    obtain ⟨rfl, rfl, rfl⟩ := hcs
    exact ⟨none, 0, 0, [], rfl, Rs.nil _, fun o ho => by cases ho⟩
  · simp [Value.cells] at hcs
    obtain ⟨rfl, rfl, rfl⟩ := hcs
    have each : ∀ i, i < n → ∃ q : O12, O12Ok q ∧ ∀ k, k < 4 → W.cell? ((ad.add (i * 4)).add k) = (o12E q)[k]? := by
      intro i hi
      have h1 := hel i hi
      have hei : elems[i]? = some elems[i] := List.getElem?_eq_getElem (by omega)
      rw [ce, hei] at h1
      obtain ⟨cs', h2, h3⟩ := Option.bind_eq_some_iff.1 h1
      obtain ⟨_, hlen', hcell⟩ := World.cells?_some h2
      obtain ⟨ys, k', _, hxa, _, hyl, hf⟩ := DataW.trod_struct Try.underlying29 h3
      match ys, hyl, cs', hlen' with
      | [y0, y1, y2, y3], _, [v0, v1, v2, v3], _ =>
        have g0 : DataW.trod enc Try.prog W 0 (fun _ => true) true k' 3 [v0] = some y0 := by
          have h := hf 0 { name := "What", type := 3, offset := 0, embedded := false, tag := "", pkgPath := "", byteOffset := 0 } rfl
          dsimp only at h
          rw [c_int] at h
          exact h
        have g1 : DataW.trod enc Try.prog W 0 (fun _ => true) true k' 3 [v1] = some y1 := by
          have h := hf 1 { name := "Seg", type := 3, offset := 1, embedded := false, tag := "", pkgPath := "", byteOffset := 8 } rfl
          dsimp only at h
          rw [c_int] at h
          exact h
        have g2 : DataW.trod enc Try.prog W 0 (fun _ => true) true k' 2 [v2] = some y2 := by
          have h := hf 2 { name := "N", type := 2, offset := 2, embedded := false, tag := "", pkgPath := "", byteOffset := 16 } rfl
          dsimp only at h
          rw [c_i64] at h
          exact h
        have g3 : DataW.trod enc Try.prog W 0 (fun _ => true) true k' 4 [v3] = some y3 := by
          have h := hf 3 { name := "Live", type := 4, offset := 3, embedded := false, tag := "", pkgPath := "", byteOffset := 24 } rfl
          dsimp only at h
          rw [c_bool] at h
          exact h
        obtain ⟨z0, e0, _⟩ := DataW.trod_int Try.underlying3 g0
        obtain ⟨z1, e1, _, b1⟩ := DataW.trod_int Try.underlying3 g1
        obtain ⟨z2, e2, _, b2⟩ := DataW.trod_int Try.underlying2 g2
        obtain ⟨z3, e3, _⟩ := DataW.trod_bool Try.underlying4 g3
        have c0 := hcell 0 (by omega)
        have c1 := hcell 1 (by omega)
        have c2 := hcell 2 (by omega)
        have c3 := hcell 3 (by omega)
        simp at c0 c1 c2 c3 e0 e1 e2 e3
        subst e0 e1 e2 e3
        have hb1 := bounds_i64 b1
        have hb2 := bounds_i64 b2
        refine ⟨⟨z0, z1, z2, z3⟩, ⟨by dsimp only; omega, by dsimp only; omega⟩, fun k hk => ?_⟩
        match k, hk with
        | 0, _ => exact c0
        | 1, _ => exact c1
        | 2, _ => exact c2
        | 3, _ => exact c3
    obtain ⟨f, hf⟩ := Go.Deep.choose_lt each
    refine ⟨some ad, n, c, (List.range n).map f, rfl, rs_ofB (e := o12E) (k := 4) (fun _ => rfl) hl f fun i hi => (hf i hi).2, fun o ho => ?_⟩
    obtain ⟨i, hi, rfl⟩ := List.mem_map.1 ho
    exact (hf i (List.mem_range.1 hi)).1
end
end Go.Proofs.Ytlldcogkcjnejaa
