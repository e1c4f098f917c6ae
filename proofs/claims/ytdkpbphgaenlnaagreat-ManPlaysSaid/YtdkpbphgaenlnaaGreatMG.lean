/-
  Texts that the statements' proofs lean on, one behind the other.
-/
import Derived.Test.YtdkpbphgaenlnaaGreatRowsIn
import Derived.Test.YtdkpbphgaenlnaaGreatCame
import Derived.Test.YtdkpbphgaenlnaaGreatInts
import Derived.Deep.SlicePairs
import Derived.Test.YtdkpbphgaenlnaaGreatQuiet
import Derived.ProofKit
import Derived.ChangeOld
/-
  A slice of slices of bytes that came in, and that none of these is too long.
-/
namespace Go.Proofs.YtdkpbphgaenlnaaGreat
open Go.ChangeShapes Go.WideShapes Go.ChangeAt Go.RowKit

theorem weights_all {H : Type} {P : Program} {e : TypeId} {x : Nat} {d : DataW H} : ∀ {l : List (DataW H)}, d ∈ l → x ∈ d.weights P e → x ∈ DataW.weightsAll P e l
  | _ :: _, h, hx => by
    unfold DataW.weightsAll
    rcases List.mem_cons.1 h with rfl | h
    · exact List.mem_append_left _ hx
    · exact List.mem_append_right _ (weights_all h hx)

section
variable {H : Type} {enc : TypeId × Value → H} {P : Program} {W : World} {base : Nat} {r : Reach}
theorem open_rows2 {t e q : TypeId} {v : Value} {d : DataW H} {p : List MemPlace} (ht : P.underlying t = some (.slice e)) (he : P.underlying e = some (.slice q)) (hq : P.underlying q = some (.int .u8)) (ce : P.cellsOf e = 1) (cq : P.cellsOf q = 1)
    (hby : P.bytesOf e = 24) (hbq : P.bytesOf q = 1) (hv : Value.okWide P W r base t v) (h : DataW.Trod enc P W 0 (fun _ => true) true t v d p) {ts : List TypeId} {ds : List (DataW H)} (hsz : (DataW.weightsEach P ts ds).all (· ≤ reachBytes) = true) {j : Nat}
    (hj : ts[j]? = some t) (hd : ds[j]? = some d) : ∃ A n c ls, v = .slice A n c ∧ Lists W A n c ls ∧ c ≤ 140737488351232 ∧ ∀ l ∈ ls, l.length ≤ 140737488351232 := by
  obtain ⟨A, n, c, rfl⟩ := okWide_slice ht hv
  obtain ⟨fuel, hf⟩ := h
  rcases Go.Deep.open_int_rows ht he hq ce cq hf with ⟨hcs, _⟩ | ⟨x, l, c', B, L, C, Z, hcs, _, hl, hm, hx, hrow⟩
  · simp [Value.cells] at hcs
    obtain ⟨rfl, rfl, rfl⟩ := hcs
    exact ⟨none, 0, 0, [], rfl, ⟨rfl, Nat.le_refl _, fun _ => rfl, [], Row.nil _ _ _, fun i h l hh => by simp at hh⟩, by omega, fun l hl => by simp at hl⟩
  · simp [Value.cells] at hcs
    obtain ⟨rfl, rfl, rfl⟩ := hcs
    simp only [Prod.mk.injEq] at hx
    have hsz' := hsz
    have hs := sized_slice hsz hj (hd.trans (by rw [hx.1])) ht
    rw [hby] at hs
    simp only [List.length_map, List.length_range, reachBytes] at hs
    have hC : ∀ i, i < n → C i ≤ 140737488351232 := fun i hi => by
      obtain ⟨_, _, _, h4, _, h6, _⟩ := hrow i (by omega)
      rcases hB : B i with _ | a'
      · have := h6 hB; omega
      · have hm : C i ∈ DataW.weightsEach P ts ds := by
          refine DataW.weights_mem_each hj (hd.trans (by rw [hx.1])) _ ?_
          simp only [DataW.weights, ht]
          refine List.mem_cons_of_mem _ (List.mem_append_left _ (weights_all (List.mem_map.2 ⟨i, List.mem_range.2 hi, rfl⟩) ?_))
          rw [hB]
          simp only [Go.Deep.intRow, DataW.weights, he]
          refine List.mem_cons.2 (.inl ?_)
          rw [hbq, Nat.mul_one]
          simp only [lits, List.length_map, List.length_take, List.length_drop]
          omega
        have := List.all_eq_true.1 hsz' _ hm
        have h2 : C i ≤ reachBytes := by simpa using this
        unfold reachBytes at h2
        omega
    have key : ∀ i, i < c → Sl W (B i) (L i) (C i) (((Z i).take (L i)).map fun z => UInt8.ofNat z.toNat) := fun i hi => by
      obtain ⟨_, h2, _, h4, h5, h6, h7⟩ := hrow i hi
      refine ⟨⟨by simp; omega, fun k v hk => ?_⟩, h2, h6⟩
      rw [List.map_map, List.getElem?_map, List.getElem?_take] at hk
      split at hk
      · rename_i hkn
        have hkz : k < (Z i).length := by omega
        rw [List.getElem?_eq_getElem hkz] at hk
        rcases hB : B i with _ | a'
        · have := h6 hB; omega
        · obtain ⟨_, h8⟩ := h7 a' hB
          have h9 := h8 k (by omega)
          refine ⟨a', rfl, by have := World.block_lt_of_cell? W _ h9; rwa [add_block] at this, ?_⟩
          have hw := u8_of_wf (h5 (Z i)[k] (List.getElem_mem hkz))
          have hv' : v = byteV (UInt8.ofNat (Z i)[k].toNat) := by
            simp only [Option.map_some, Function.comp, Option.some.injEq] at hk
            exact hk.symm
          rw [h9, hv', byteV, hw, List.getD_eq_getElem?_getD, List.getElem?_eq_getElem hkz]
          rfl
      · cases hk
    refine ⟨some x, n, c, (List.range n).map fun i => ((Z i).take (L i)).map fun z => UInt8.ofNat z.toNat, rfl, ⟨by simp, hl, (fun h => by cases h), (List.range n).map fun i => (B i, L i, C i), ⟨by simp, fun k v hk => ?_⟩, fun i h l hh hl' => ?_⟩, by omega, fun l hl => ?_⟩
    · rw [List.map_map, List.getElem?_map] at hk
      rcases Nat.lt_or_ge k n with hkn | hkn
      · rw [List.getElem?_range hkn] at hk
        simp only [Option.map_some, Function.comp, Option.some.injEq] at hk
        have h9 := (hrow k (by omega)).1
        exact ⟨x, rfl, by have := World.block_lt_of_cell? W _ h9; rwa [add_block] at this, by rw [h9, ← hk]; rfl⟩
      · rw [List.getElem?_eq_none (by simpa using hkn)] at hk; cases hk
    · rw [List.getElem?_map] at hh hl'
      rcases Nat.lt_or_ge i n with hin | hin
      · rw [List.getElem?_range hin] at hh hl'
        simp only [Option.map_some, Option.some.injEq] at hh hl'
        subst hh hl'
        exact key i (by omega)
      · rw [List.getElem?_eq_none (by simpa using hin)] at hh; cases hh
    · obtain ⟨i, hi, rfl⟩ := List.mem_map.1 hl
      have h1 := hC i (List.mem_range.1 hi)
      obtain ⟨_, h2, _, h4, _⟩ := hrow i (by have := List.mem_range.1 hi; omega)
      rw [List.length_map, List.length_take]
      omega
end
end Go.Proofs.YtdkpbphgaenlnaaGreat

/-
  Calls of a disk that came in, as a list.
-/
namespace Go.Proofs.YtdkpbphgaenlnaaGreat
open Go.ChangeShapes Go.WideShapes Go.ChangeAt Go.RowKit
set_option linter.unusedVariables false

structure O8 where
  what : Int
  name : List UInt8
  to : List UInt8
  b : List UInt8
  n : Int
  bytes : List Int
  bits : Int
/-- Where a call has its bytes, and its numbers. -/
structure P8 where
  BA : Option Addr
  bn : Nat
  bc : Nat
  IA : Option Addr
  im : Nat
  ic : Nat
instance : Inhabited O8 := ⟨⟨0, [], [], [], 0, [], 0⟩⟩
instance : Inhabited P8 := ⟨⟨none, 0, 0, none, 0, 0⟩⟩
def o8V (o : O8) (p : P8) : List Value := [.int .i64 o.what, .string ⟨o.name.toArray⟩, .string ⟨o.to.toArray⟩, .slice p.BA p.bn p.bc, .int .i64 o.n, .slice p.IA p.im p.ic, .int .u32 o.bits]
structure O8At (w : World) (o : O8) (p : P8) : Prop where
  what : -9223372036854775808 ≤ o.what ∧ o.what ≤ 9223372036854775807
  name : o.name.length ≤ 9223372036854775807
  to : o.to.length ≤ 9223372036854775807
  b : Sl w p.BA p.bn p.bc o.b
  n : -9223372036854775808 ≤ o.n ∧ o.n ≤ 9223372036854775807
  bytes : Ints w p.IA p.im p.ic o.bytes
  each : ∀ x ∈ o.bytes, -9223372036854775808 ≤ x ∧ x ≤ 9223372036854775807
  bits : 0 ≤ o.bits ∧ o.bits ≤ 4294967295
  small : o.name.length ≤ 140737488351232 ∧ o.to.length ≤ 140737488351232 ∧ o.b.length ≤ 140737488351232 ∧ o.bytes.length ≤ 140737488351232
/-- The list, as functions are handed it. -/
structure Ops8 (w : World) (A : Option Addr) (n c : Nat) (os : List O8) : Prop where
  len : os.length = n
  cap : n ≤ c
  top : n ≤ 140737488351232
  spot : ∀ i, i < n → ∃ (ad : Addr) (o : O8) (p : P8), A = some ad ∧ ad.block < w.heap.size ∧ os[i]? = some o ∧ O8At w o p ∧ ∀ k, k < 7 → w.cell? ((ad.add (i * 7)).add k) = (o8V o p)[k]?

theorem Sl.block {W : World} {A : Option Addr} {n c : Nat} {bs : List UInt8} (h : Sl W A n c bs) : ∀ ad, A = some ad → bs ≠ [] → ad.block < W.heap.size := by
  intro ad hA hne
  have hl := h.len
  have hpos : 0 < n := by
    rcases Nat.eq_zero_or_pos n with h0 | h0
    · exact absurd (List.eq_nil_of_length_eq_zero (by omega)) hne
    · exact h0
  obtain ⟨ad', hA', hb, _⟩ := h.bytes.spot hpos
  rw [hA] at hA'
  injection hA' with hA'
  rw [hA']
  exact hb
theorem Ints.block {W : World} {A : Option Addr} {n c : Nat} {xs : List Int} (h : Ints W A n c xs) : ∀ ad, A = some ad → xs ≠ [] → ad.block < W.heap.size := by
  intro ad hA hne
  have hl := h.len
  have hpos : 0 < n := by
    rcases Nat.eq_zero_or_pos n with h0 | h0
    · exact absurd (List.eq_nil_of_length_eq_zero (by omega)) hne
    · exact h0
  obtain ⟨ad', x, hA', _, _, hb⟩ := h.get hpos
  rw [hA] at hA'
  injection hA' with hA'
  rw [hA']
  exact hb

section
variable {H : Type} {enc : TypeId × Value → H} {W : World} {base : Nat} {r : Reach}
theorem open_sl8 {m : Nat} {a : Value} {x : DataW H × List MemPlace} (h : DataW.trod enc Tryz.prog W 0 (fun _ => true) true m 55 [a] = some x) : ∃ A n c bs, a = .slice A n c ∧ Sl W A n c bs ∧ (n = 0 ∨ c ∈ x.1.weights Tryz.prog 55) := by
  rcases open_ints Tryz.underlying55 Tryz.underlying5 (by kernel_rfl) h with ⟨hcs, _⟩ | ⟨x, l, c, zs, hcs, _, hl, hm, hz, hxx, hcell, hwz⟩
  · simp at hcs
    exact ⟨none, 0, 0, [], hcs, Sl.nil _, .inl rfl⟩
  · simp at hcs
    have hz' : zs.length = c := by simpa using hz
    refine ⟨some x, l, c, (zs.take l).map (fun z => UInt8.ofNat z.toNat), hcs, ⟨⟨?_, ?_⟩, hl, fun h => by cases h⟩, .inr ?_⟩
    rotate_right 1
    · rw [hxx]
      simp only [DataW.weights, Tryz.underlying55]
      refine List.mem_cons.2 (.inl ?_)
      rw [show Tryz.prog.bytesOf 5 = 1 by kernel_rfl, Nat.mul_one]
      simp only [lits, List.length_map, List.length_take, List.length_drop]
      omega
    · rw [List.length_map, List.length_map, List.length_take]
      omega
    · intro k v hk
      rw [List.map_map, List.getElem?_map, List.getElem?_take] at hk
      split at hk
      · rename_i hkn
        have hkz : k < zs.length := by omega
        rw [List.getElem?_eq_getElem hkz] at hk
        have hcl := hcell k hkz
        refine ⟨x, rfl, by have := World.block_lt_of_cell? W _ hcl; rwa [add_block] at this, ?_⟩
        have hw := u8_of_wf (hwz zs[k] (List.getElem_mem hkz))
        have hv' : v = byteV (UInt8.ofNat zs[k].toNat) := by
          simp only [Option.map_some, Function.comp, Option.some.injEq] at hk
          exact hk.symm
        rw [hcl, hv', byteV, hw, List.getD_eq_getElem?_getD, List.getElem?_eq_getElem hkz]
        rfl
      · cases hk
theorem open_is8 {m : Nat} {a : Value} {x : DataW H × List MemPlace} (h : DataW.trod enc Tryz.prog W 0 (fun _ => true) true m 29 [a] = some x) : ∃ A n c xs, a = .slice A n c ∧ Ints W A n c xs ∧ (n = 0 ∨ c * 8 ∈ x.1.weights Tryz.prog 29) ∧ ∀ x ∈ xs, -9223372036854775808 ≤ x ∧ x ≤ 9223372036854775807 := by
  rcases open_ints Tryz.underlying29 Tryz.underlying3 (by kernel_rfl) h with ⟨hcs, _⟩ | ⟨x, l, c, zs, hcs, _, hl, hm, hz, hx, hcell, hwz⟩
  · simp at hcs
    exact ⟨none, 0, 0, [], hcs, ⟨Row.nil _ _ _, Nat.le_refl _, fun _ => rfl⟩, .inl rfl, fun x hx => by cases hx⟩
  · simp at hcs
    have hz' : zs.length = c := by simpa using hz
    refine ⟨some x, l, c, zs.take l, hcs, ⟨⟨?_, fun k v hk => ?_⟩, hl, (fun h => by cases h)⟩, .inr ?_, fun y hy => bounds_i64 (hwz y (List.mem_of_mem_take hy))⟩
    rotate_right 1
    · rw [hx]
      simp only [DataW.weights, Tryz.underlying29]
      refine List.mem_cons.2 (.inl ?_)
      rw [show Tryz.prog.bytesOf 3 = 8 by kernel_rfl]
      simp only [lits, List.length_map, List.length_take, List.length_drop]
      congr 1
      omega
    · rw [List.length_map, List.length_take]
      omega
    · rw [List.getElem?_map, List.getElem?_take] at hk
      split at hk
      · rename_i hkn
        have hkz : k < zs.length := by omega
        rw [List.getElem?_eq_getElem hkz] at hk
        have hcl := hcell k hkz
        refine ⟨x, rfl, by have := World.block_lt_of_cell? W _ hcl; rwa [add_block] at this, ?_⟩
        simp only [Option.map_some, Option.some.injEq] at hk
        rw [hcl, ← hk, iV, List.getD_eq_getElem?_getD, List.getElem?_eq_getElem hkz]
        rfl
      · cases hk
set_option maxRecDepth 100000 in
theorem open_i64b {v : Value} {d : DataW H} {p : List MemPlace} (hv : Value.okWide Tryz.prog W r base 29 v) (h : DataW.Trod enc Tryz.prog W 0 (fun _ => true) true 29 v d p) :
    ∃ A n c xs, v = .slice A n c ∧ Ints W A n c xs ∧ ∀ x ∈ xs, -9223372036854775808 ≤ x ∧ x ≤ 9223372036854775807 := by
  obtain ⟨A, n, c, rfl⟩ := okWide_slice Tryz.underlying29 hv
  obtain ⟨fuel, hf⟩ := h
  obtain ⟨A', n', c', xs, h1, h2, _, h3⟩ := open_is8 (a := .slice A n c) hf
  exact ⟨A', n', c', xs, h1, h2, h3⟩
end
theorem O8At.grow {w w' : World} {o : O8} {p : P8} (h : O8At w o p) (hg : Grows w w') : O8At w' o p := ⟨h.what, h.name, h.to, h.b.grow hg, h.n, h.bytes.grow hg, h.each, h.bits, h.small⟩
theorem Ops8.grow {w w' : World} {A : Option Addr} {n c : Nat} {os : List O8} (h : Ops8 w A n c os) (hg : Grows w w') : Ops8 w' A n c os := by
  refine ⟨h.len, h.cap, h.top, fun i hi => ?_⟩
  obtain ⟨ad, o, p, h1, h2, h3, h4, h5⟩ := h.spot i hi
  exact ⟨ad, o, p, h1, Nat.lt_of_lt_of_le h2 hg.size, h3, h4.grow hg, fun k hk => by rw [hg.cell (by rw [add_block, add_block]; exact h2)]; exact h5 k hk⟩
end Go.Proofs.YtdkpbphgaenlnaaGreat

/-
  Are the calls that came in too many?
-/
namespace Go.Proofs.YtdkpbphgaenlnaaGreat
open Go.ChangeShapes Go.WideShapes Go.ChangeAt Go.RowKit
set_option linter.unusedSimpArgs false
set_option linter.unusedVariables false

theorem wadd (a b s : Nat) (h : a + b = s) (hs : s ≤ 9000000000000000000) : IntKind.i64.wrap ((a : Int) + (b : Int)) = (s : Int) := by
  rw [IntWalk.i64_in _ (by omega)]; omega
theorem add_fld (a : Addr) (k : Nat) : a.add (k + 1) = { block := a.block, off := a.off + (k + 1) } := Addr.add_succ' a k
theorem minval (t q : Nat) (h : min t 9000 = q) : (if (9000 : Int) < (t : Int) then (9000 : Int) else (t : Int)) = (q : Int) := by split <;> omega
theorem less_one {k n : Nat} (h : k < n) : n - (intOf (Value.int IntKind.i64 ((k : Int) + 1))).toNat < n - (intOf (Value.int IntKind.i64 (k : Int))).toNat := by
  simp only [intOf]
  omega
theorem o8_cells {w wr : World} {a : Addr} {o : O8} {p : P8} (hb : a.block < w.heap.size) (hc : ∀ k, k < 7 → w.cell? (a.add k) = (o8V o p)[k]?) (hg : Grows w wr) :
    wr.cell? a = some (.int .i64 o.what) ∧ wr.cell? { block := a.block, off := a.off + 1 } = some (.string ⟨o.name.toArray⟩) ∧ wr.cell? { block := a.block, off := a.off + 2 } = some (.string ⟨o.to.toArray⟩) ∧
      wr.cell? { block := a.block, off := a.off + 3 } = some (.slice p.BA p.bn p.bc) ∧ wr.cell? { block := a.block, off := a.off + 4 } = some (.int .i64 o.n) ∧ wr.cell? { block := a.block, off := a.off + 5 } = some (.slice p.IA p.im p.ic) ∧
      wr.cell? { block := a.block, off := a.off + 6 } = some (.int .u32 o.bits) := by
  have key : ∀ k, k < 7 → wr.cell? (a.add k) = (o8V o p)[k]? := fun k hk => (hg.cell (by rw [add_block]; exact hb)).trans (hc k hk)
  have h0 := key 0 (by omega)
  rw [show a.add 0 = a by unfold Addr.add; simp] at h0
  have h1 := key 1 (by omega)
  have h2 := key 2 (by omega)
  have h3 := key 3 (by omega)
  have h4 := key 4 (by omega)
  have h5 := key 5 (by omega)
  have h6 := key 6 (by omega)
  rw [add_fld] at h1 h2 h3 h4 h5 h6
  exact ⟨h0, h1, h2, h3, h4, h5, h6⟩
def o8len (o : O8) : Nat := o.b.length + o.name.length + o.to.length + o.bytes.length
def o8min (os : List O8) : Nat := (os.map fun o => min (o8len o) 9000).sum
def o8all (os : List O8) : Nat := (os.map o8len).sum
theorem o8min_one {os : List O8} {i : Nat} {o : O8} (h : os[i]? = some o) : o8min (os.take (i + 1)) = o8min (os.take i) + min (o8len o) 9000 := by
  unfold o8min
  rw [List.take_add_one, h, List.map_append, List.sum_append]
  simp
theorem o8all_one {os : List O8} {i : Nat} {o : O8} (h : os[i]? = some o) : o8all (os.take (i + 1)) = o8all (os.take i) + o8len o := by
  unfold o8all
  rw [List.take_add_one, h, List.map_append, List.sum_append]
  simp
theorem o8all_take (os : List O8) (i : Nat) : o8all (os.take i) ≤ o8all os := by
  unfold o8all
  conv => rhs; rw [← List.take_append_drop i os, List.map_append, List.sum_append]
  omega
theorem o8min_small : ∀ {os : List O8}, o8min os < 9000 → o8all os = o8min os
  | [], _ => rfl
  | o :: os, h => by
    unfold o8min at h
    rw [List.map_cons, List.sum_cons] at h
    have h2 : o8min os < 9000 := by unfold o8min; omega
    have := o8min_small h2
    unfold o8all o8min at *
    rw [List.map_cons, List.sum_cons, List.map_cons, List.sum_cons, this]
    omega

end Go.Proofs.YtdkpbphgaenlnaaGreat
