/-
  Calls of a directory that came in, as a list.
-/
import Derived.Test.YtadgbobemmfjoaaKsHead
import Derived.Test.YtadgbobemmfjoaaRows
import Derived.Test.YtadgbobemmfjoaaChecked
import Derived.Test.YtadgbobemmfjoaaFrame
import Derived.Test.YtadgbobemmfjoaaSeat
import Derived.ChangeOld
import Derived.SliceStrings
import Derived.Deep.SlicePairs
import Derived.Deep.Draws
import Derived.SizedLaws
import Derived.ChangeMaps5
namespace Go.Proofs.Ytadgbobemmfjoaa
open Go.ChangeMaps Go.ChangeShapes Go.WideShapes Go.ChangeAt Go.RowKit
set_option linter.unusedVariables false
set_option linter.unusedSimpArgs false

structure O13 where
  what : Int
  p : Pl
  n : Int
instance : Inhabited O13 := ⟨⟨0, Pl.zero, 0⟩⟩
def o13E (o : O13) : List Value := [.int .i64 o.what, .int .i64 o.p.seg, .int .i64 o.p.kind, .string ⟨o.p.key.toArray⟩, .int .i64 o.p.at_, .int .i64 o.p.size, .int .i64 o.n]
theorem o13L (o : O13) : (o13E o).length = 7 := rfl
structure O13Ok (o : O13) : Prop where
  key : o.p.key.length ≤ 9223372036854775807
  n : -9223372036854775808 ≤ o.n ∧ o.n ≤ 9223372036854775807
structure Ops13 (w : World) (A : Option Addr) (n c : Nat) (os : List O13) : Prop where
  row : Rs w A n c o13E 7 os
  ok : ∀ o ∈ os, O13Ok o
  big : n ≤ 9223372036854775807
theorem Ops13.grow {w w' : World} {A : Option Addr} {n c : Nat} {os : List O13} (h : Ops13 w A n c os) (hg : Grows w w') : Ops13 w' A n c os := ⟨h.row.grow hg, h.ok, h.big⟩
theorem Ops13.at {w : World} {A : Option Addr} {n c : Nat} {l : List O13} (h : Ops13 w A n c l) {i : Nat} (hi : i < n) : ∃ ad x, A = some ad ∧ l[i]? = some x ∧ ad.block < w.heap.size ∧ O13Ok x ∧
    ∀ w', Grows w w' → w'.cell? (ad.add (i * 7)) = some (.int .i64 x.what) ∧ w'.cell? { block := (ad.add (i * 7)).block, off := (ad.add (i * 7)).off + 1 } = some (.int .i64 x.p.seg) ∧
      w'.cell? { block := (ad.add (i * 7)).block, off := (ad.add (i * 7)).off + 2 } = some (.int .i64 x.p.kind) ∧ w'.cell? { block := (ad.add (i * 7)).block, off := (ad.add (i * 7)).off + 3 } = some (.string ⟨x.p.key.toArray⟩) ∧
      w'.cell? { block := (ad.add (i * 7)).block, off := (ad.add (i * 7)).off + 4 } = some (.int .i64 x.p.at_) ∧ w'.cell? { block := (ad.add (i * 7)).block, off := (ad.add (i * 7)).off + 5 } = some (.int .i64 x.p.size) ∧
      w'.cell? { block := (ad.add (i * 7)).block, off := (ad.add (i * 7)).off + 6 } = some (.int .i64 x.n) := by
  obtain ⟨ad, x, h1, h2, h3, h4⟩ := Rs.get o13L (by omega) h.row hi
  refine ⟨ad, x, h1, h2, h3, h.ok x (List.mem_of_getElem? h2), fun w' hg => ?_⟩
  have key : ∀ j u, (o13E x)[j]? = some u → w'.cell? ((ad.add (i * 7)).add j) = some u := fun j u hj => (hg.cell (by rw [add_block, add_block]; exact h3)).trans (h4 j u hj)
  have k0 := key 0 _ rfl
  have k1 := key 1 _ rfl
  have k2 := key 2 _ rfl
  have k3 := key 3 _ rfl
  have k4 := key 4 _ rfl
  have k5 := key 5 _ rfl
  have k6 := key 6 _ rfl
  rw [show (ad.add (i * 7)).add 0 = ad.add (i * 7) from by generalize ad.add (i * 7) = q; unfold Addr.add; simp] at k0
  rw [Addr.add_succ'] at k1 k2 k3 k4 k5 k6
  exact ⟨k0, k1, k2, k3, k4, k5, k6⟩
section
variable {H : Type} {enc : TypeId × Value → H} {W : World} {base : Nat} {r : Reach}
theorem rs_ofK {α : Type} [Inhabited α] {e : α → List Value} {k : Nat} (hk : ∀ a, (e a).length = k) {ad : Addr} {n c : Nat} (hc : n ≤ c) (f : Nat → α) (h : ∀ i, i < n → ∀ j, j < k → W.cell? ((ad.add (i * k)).add j) = (e (f i))[j]?) :
    Rs W (some ad) n c e k ((List.range n).map f) := by
  refine ⟨by simp, hc, (fun h => by cases h), ?_, ?_⟩
  · rw [flat_length hk]
    simp [Nat.mul_comm]
  · intro j v hj
    have hjl : j < (((List.range n).map f).flatMap e).length := (List.getElem?_eq_some_iff.1 hj).1
    rw [flat_length hk] at hjl
    simp only [List.length_map, List.length_range] at hjl
    have hk0 : 0 < k := by
      rcases Nat.eq_zero_or_pos k with h0 | h0
      · subst h0; omega
      · exact h0
    have hq : j / k < n := Nat.div_lt_of_lt_mul (by rw [Nat.mul_comm]; exact hjl)
    have hm : j % k < k := Nat.mod_lt _ hk0
    have hdm : j / k * k + j % k = j := by rw [Nat.mul_comm]; exact Nat.div_add_mod j k
    have h1 := flat_get hk ((List.range n).map f) (j / k) (j % k) (f (j / k)) (by rw [List.getElem?_map, List.getElem?_range hq]; rfl) hm
    rw [hdm, hj] at h1
    have h2 := h (j / k) hq (j % k) hm
    rw [← h1, add_twice, hdm] at h2
    exact ⟨ad, rfl, by have := World.block_lt_of_cell? W _ h2; rwa [add_block] at this, h2⟩
set_option maxRecDepth 100000 in
theorem open_ops13 {v : Value} {d : DataW H} {p : List MemPlace} (hv : Value.okWide Try.prog W r base 22 v) (h : DataW.Trod enc Try.prog W 0 (fun _ => true) true 22 v d p) :
    ∃ A n c os, v = .slice A n c ∧ Ops13 W A n c os := by
  obtain ⟨A, n, c, rfl⟩ := okWide_slice Try.underlying22 hv
  obtain ⟨fuel, hf⟩ := h
  have ce : Try.prog.cellsOf 34 = 7 := by kernel_rfl
  have c_int : Try.prog.cellsOf 3 = 1 := by kernel_rfl
  have c_str : Try.prog.cellsOf 9 = 1 := by kernel_rfl
  have c_pl : Try.prog.cellsOf 32 = 5 := by kernel_rfl
  have c_ht : Try.prog.cellsOf 30 = 4 := by kernel_rfl
  rcases DataW.trod_slice Try.underlying22 hf with ⟨hcs, _⟩ | ⟨ad, len, cap, elems, rest, k, _, hcs, hxd, _, hl, hmx, hlen, hel, _⟩
  · simp [Value.cells] at hcs
    obtain ⟨rfl, rfl, rfl⟩ := hcs
    exact ⟨none, 0, 0, [], rfl, Rs.nil _, (fun o ho => by cases ho), by omega⟩
  · simp [Value.cells] at hcs
    obtain ⟨rfl, rfl, rfl⟩ := hcs
    have each : ∀ i, i < n → ∃ q : O13, O13Ok q ∧ ∀ k, k < 7 → W.cell? ((ad.add (i * 7)).add k) = (o13E q)[k]? := by
      intro i hi
      have h1 := hel i hi
      have hei : elems[i]? = some elems[i] := List.getElem?_eq_getElem (by omega)
      rw [ce, hei] at h1
      obtain ⟨cs', h2, h3⟩ := Option.bind_eq_some_iff.1 h1
      obtain ⟨_, hlen', hcell⟩ := World.cells?_some h2
      obtain ⟨ys, k', _, hxa, _, hyl, hf⟩ := DataW.trod_struct Try.underlying34 h3
      match ys, hyl, cs', hlen' with
      | [y0, y1, y2], _, [v0, v1, v2, v3, v4, v5, v6], _ =>
        have g0 : DataW.trod enc Try.prog W 0 (fun _ => true) true k' 3 [v0] = some y0 := by
          have h := hf 0 { name := "What", type := 3, offset := 0, embedded := false, tag := "", pkgPath := "", byteOffset := 0 } rfl
          dsimp only at h
          rw [c_int] at h
          exact h
        have g1 : DataW.trod enc Try.prog W 0 (fun _ => true) true k' 32 [v1, v2, v3, v4, v5] = some y1 := by
          have h := hf 1 { name := "P", type := 32, offset := 1, embedded := false, tag := "", pkgPath := "", byteOffset := 8 } rfl
          dsimp only at h
          rw [c_pl] at h
          exact h
        have g2 : DataW.trod enc Try.prog W 0 (fun _ => true) true k' 3 [v6] = some y2 := by
          have h := hf 2 { name := "N", type := 3, offset := 6, embedded := false, tag := "", pkgPath := "", byteOffset := 56 } rfl
          dsimp only at h
          rw [c_int] at h
          exact h
        obtain ⟨zs, k2, _, _, _, hzl, hf2⟩ := DataW.trod_struct Try.underlying32 g1
        match zs, hzl with
        | [p0, p1], _ =>
          have s0 : DataW.trod enc Try.prog W 0 (fun _ => true) true k2 3 [v1] = some p0 := by
            have h := hf2 0 { name := "Seg", type := 3, offset := 0, embedded := false, tag := "", pkgPath := "", byteOffset := 0 } rfl
            dsimp only at h
            rw [c_int] at h
            exact h
          have s1 : DataW.trod enc Try.prog W 0 (fun _ => true) true k2 30 [v2, v3, v4, v5] = some p1 := by
            have h := hf2 1 { name := "Hint", type := 30, offset := 1, embedded := false, tag := "", pkgPath := "", byteOffset := 8 } rfl
            dsimp only at h
            rw [c_ht] at h
            exact h
          obtain ⟨us, k3, _, _, _, hul, hf3⟩ := DataW.trod_struct Try.underlying30 s1
          match us, hul with
          | [u0, u1, u2, u3], _ =>
            have t0 : DataW.trod enc Try.prog W 0 (fun _ => true) true k3 3 [v2] = some u0 := by
              have h := hf3 0 { name := "Kind", type := 3, offset := 0, embedded := false, tag := "", pkgPath := "", byteOffset := 0 } rfl
              dsimp only at h
              rw [c_int] at h
              exact h
            have t1 : DataW.trod enc Try.prog W 0 (fun _ => true) true k3 9 [v3] = some u1 := by
              have h := hf3 1 { name := "Key", type := 9, offset := 1, embedded := false, tag := "", pkgPath := "", byteOffset := 8 } rfl
              dsimp only at h
              rw [c_str] at h
              exact h
            have t2 : DataW.trod enc Try.prog W 0 (fun _ => true) true k3 3 [v4] = some u2 := by
              have h := hf3 2 { name := "At", type := 3, offset := 2, embedded := false, tag := "", pkgPath := "", byteOffset := 24 } rfl
              dsimp only at h
              rw [c_int] at h
              exact h
            have t3 : DataW.trod enc Try.prog W 0 (fun _ => true) true k3 3 [v5] = some u3 := by
              have h := hf3 3 { name := "Size", type := 3, offset := 3, embedded := false, tag := "", pkgPath := "", byteOffset := 32 } rfl
              dsimp only at h
              rw [c_int] at h
              exact h
            obtain ⟨z0, e0, _⟩ := DataW.trod_int Try.underlying3 g0
            obtain ⟨z6, e6, _, b6⟩ := DataW.trod_int Try.underlying3 g2
            obtain ⟨z1, e1, _⟩ := DataW.trod_int Try.underlying3 s0
            obtain ⟨z2, e2, _⟩ := DataW.trod_int Try.underlying3 t0
            obtain ⟨z4, e4, _⟩ := DataW.trod_int Try.underlying3 t2
            obtain ⟨z5, e5, _⟩ := DataW.trod_int Try.underlying3 t3
            obtain ⟨sb, e3, hsb⟩ := DataW.trod_string Try.underlying9 t1
            have c0 := hcell 0 (by omega)
            have c1 := hcell 1 (by omega)
            have c2 := hcell 2 (by omega)
            have c3 := hcell 3 (by omega)
            have c4 := hcell 4 (by omega)
            have c5 := hcell 5 (by omega)
            have c6 := hcell 6 (by omega)
            simp at c0 c1 c2 c3 c4 c5 c6 e0 e1 e2 e3 e4 e5 e6
            subst e0 e1 e2 e3 e4 e5 e6
            have hb6 := bounds_i64 b6
            have hss : sb.data.toList.length ≤ 9223372036854775807 := by
              have e : sb.data.toList.length = sb.size := Array.length_toList
              have := hsb.2
              unfold maxLen at this
              omega
            refine ⟨⟨z0, ⟨z1, z2, sb.data.toList, z4, z5⟩, z6⟩, ⟨hss, by dsimp only; omega⟩, fun k hk => ?_⟩
            match k, hk with
            | 0, _ => exact c0
            | 1, _ => exact c1
            | 2, _ => exact c2
            | 3, _ => exact c3.trans (by simp [o13E])
            | 4, _ => exact c4
            | 5, _ => exact c5
            | 6, _ => exact c6
    obtain ⟨f, hf⟩ := Go.Deep.choose_lt each
    refine ⟨some ad, n, c, (List.range n).map f, rfl, rs_ofK (e := o13E) (k := 7) (fun _ => rfl) hl f (fun i hi => (hf i hi).2), (fun o ho => ?_), ?_⟩
    · obtain ⟨i, hi, rfl⟩ := List.mem_map.1 ho
      exact (hf i (List.mem_range.1 hi)).1
    · have := hmx
      unfold maxLen at this
      omega
end
end Go.Proofs.Ytadgbobemmfjoaa
