/-
  Calls of a disk that came in, as a list.
-/
import Derived.Test.YtmfhpfehphbklaaCame
import Derived.Test.YtmfhpfehphbklaaInts
import Derived.Test.YtmfhpfehphbklaaRowsIn2
import Derived.Deep.SlicePairs
namespace Go.Proofs.Ytmfhpfehphbklaa
open Go.ChangeShapes Go.WideShapes Go.ChangeAt Go.RowKit
set_option linter.unusedVariables false

structure O8 where
  what : Int
  name : List UInt8
  to : List UInt8
  b : List UInt8
  n : Int
  bytes : List Int
  bits : Int
/-- Where a call has its bytes, and its numbers. -/
structure P8 where
  BA : Option Addr
  bn : Nat
  bc : Nat
  IA : Option Addr
  im : Nat
  ic : Nat
instance : Inhabited O8 := ⟨⟨0, [], [], [], 0, [], 0⟩⟩
instance : Inhabited P8 := ⟨⟨none, 0, 0, none, 0, 0⟩⟩
def o8V (o : O8) (p : P8) : List Value := [.int .i64 o.what, .string ⟨o.name.toArray⟩, .string ⟨o.to.toArray⟩, .slice p.BA p.bn p.bc, .int .i64 o.n, .slice p.IA p.im p.ic, .int .u32 o.bits]
structure O8At (w : World) (o : O8) (p : P8) : Prop where
  what : -9223372036854775808 ≤ o.what ∧ o.what ≤ 9223372036854775807
  name : o.name.length ≤ 9223372036854775807
  to : o.to.length ≤ 9223372036854775807
  b : Sl w p.BA p.bn p.bc o.b
  n : -9223372036854775808 ≤ o.n ∧ o.n ≤ 9223372036854775807
  bytes : Ints w p.IA p.im p.ic o.bytes
  each : ∀ x ∈ o.bytes, -9223372036854775808 ≤ x ∧ x ≤ 9223372036854775807
  bits : 0 ≤ o.bits ∧ o.bits ≤ 4294967295
  small : o.name.length ≤ 140737488351232 ∧ o.to.length ≤ 140737488351232 ∧ o.b.length ≤ 140737488351232 ∧ o.bytes.length ≤ 140737488351232
/-- The list, as functions are handed it. -/
structure Ops8 (w : World) (A : Option Addr) (n c : Nat) (os : List O8) : Prop where
  len : os.length = n
  cap : n ≤ c
  top : n ≤ 140737488351232
  spot : ∀ i, i < n → ∃ (ad : Addr) (o : O8) (p : P8), A = some ad ∧ ad.block < w.heap.size ∧ os[i]? = some o ∧ O8At w o p ∧ ∀ k, k < 7 → w.cell? ((ad.add (i * 7)).add k) = (o8V o p)[k]?

theorem Sl.block {W : World} {A : Option Addr} {n c : Nat} {bs : List UInt8} (h : Sl W A n c bs) : ∀ ad, A = some ad → bs ≠ [] → ad.block < W.heap.size := by
  intro ad hA hne
  have hl := h.len
  have hpos : 0 < n := by
    rcases Nat.eq_zero_or_pos n with h0 | h0
    · exact absurd (List.eq_nil_of_length_eq_zero (by omega)) hne
    · exact h0
  obtain ⟨ad', hA', hb, _⟩ := h.bytes.spot hpos
  rw [hA] at hA'
  injection hA' with hA'
  rw [hA']
  exact hb
theorem Ints.block {W : World} {A : Option Addr} {n c : Nat} {xs : List Int} (h : Ints W A n c xs) : ∀ ad, A = some ad → xs ≠ [] → ad.block < W.heap.size := by
  intro ad hA hne
  have hl := h.len
  have hpos : 0 < n := by
    rcases Nat.eq_zero_or_pos n with h0 | h0
    · exact absurd (List.eq_nil_of_length_eq_zero (by omega)) hne
    · exact h0
  obtain ⟨ad', x, hA', _, _, hb⟩ := h.get hpos
  rw [hA] at hA'
  injection hA' with hA'
  rw [hA']
  exact hb

section
variable {H : Type} {enc : TypeId × Value → H} {W : World} {base : Nat} {r : Reach}
theorem open_sl8 {m : Nat} {a : Value} {x : DataW H × List MemPlace} (h : DataW.trod enc Try.prog W 0 (fun _ => true) true m 23 [a] = some x) : ∃ A n c bs, a = .slice A n c ∧ Sl W A n c bs ∧ (n = 0 ∨ c ∈ x.1.weights Try.prog 23) := by
  rcases open_ints Try.underlying23 Try.underlying5 (by kernel_rfl) h with ⟨hcs, _⟩ | ⟨x, l, c, zs, hcs, _, hl, hm, hz, hxx, hcell, hwz⟩
  · simp at hcs
    exact ⟨none, 0, 0, [], hcs, Sl.nil _, .inl rfl⟩
  · simp at hcs
    have hz' : zs.length = c := by simpa using hz
    refine ⟨some x, l, c, (zs.take l).map (fun z => UInt8.ofNat z.toNat), hcs, ⟨⟨?_, ?_⟩, hl, fun h => by cases h⟩, .inr ?_⟩
    rotate_right 1
    · rw [hxx]
      simp only [DataW.weights, Try.underlying23]
      refine List.mem_cons.2 (.inl ?_)
      rw [show Try.prog.bytesOf 5 = 1 by kernel_rfl, Nat.mul_one]
      simp only [lits, List.length_map, List.length_take, List.length_drop]
      omega
    · rw [List.length_map, List.length_map, List.length_take]
      omega
    · intro k v hk
      rw [List.map_map, List.getElem?_map, List.getElem?_take] at hk
      split at hk
      · rename_i hkn
        have hkz : k < zs.length := by omega
        rw [List.getElem?_eq_getElem hkz] at hk
        have hcl := hcell k hkz
        refine ⟨x, rfl, by have := World.block_lt_of_cell? W _ hcl; rwa [add_block] at this, ?_⟩
        have hw := u8_of_wf (hwz zs[k] (List.getElem_mem hkz))
        have hv' : v = byteV (UInt8.ofNat zs[k].toNat) := by
          simp only [Option.map_some, Function.comp, Option.some.injEq] at hk
          exact hk.symm
        rw [hcl, hv', byteV, hw, List.getD_eq_getElem?_getD, List.getElem?_eq_getElem hkz]
        rfl
      · cases hk
theorem open_is8 {m : Nat} {a : Value} {x : DataW H × List MemPlace} (h : DataW.trod enc Try.prog W 0 (fun _ => true) true m 39 [a] = some x) : ∃ A n c xs, a = .slice A n c ∧ Ints W A n c xs ∧ (n = 0 ∨ c * 8 ∈ x.1.weights Try.prog 39) ∧ ∀ x ∈ xs, -9223372036854775808 ≤ x ∧ x ≤ 9223372036854775807 := by
  rcases open_ints Try.underlying39 Try.underlying3 (by kernel_rfl) h with ⟨hcs, _⟩ | ⟨x, l, c, zs, hcs, _, hl, hm, hz, hx, hcell, hwz⟩
  · simp at hcs
    exact ⟨none, 0, 0, [], hcs, ⟨Row.nil _ _ _, Nat.le_refl _, fun _ => rfl⟩, .inl rfl, fun x hx => by cases hx⟩
  · simp at hcs
    have hz' : zs.length = c := by simpa using hz
    refine ⟨some x, l, c, zs.take l, hcs, ⟨⟨?_, fun k v hk => ?_⟩, hl, (fun h => by cases h)⟩, .inr ?_, fun y hy => bounds_i64 (hwz y (List.mem_of_mem_take hy))⟩
    rotate_right 1
    · rw [hx]
      simp only [DataW.weights, Try.underlying39]
      refine List.mem_cons.2 (.inl ?_)
      rw [show Try.prog.bytesOf 3 = 8 by kernel_rfl]
      simp only [lits, List.length_map, List.length_take, List.length_drop]
      congr 1
      omega
    · rw [List.length_map, List.length_take]
      omega
    · rw [List.getElem?_map, List.getElem?_take] at hk
      split at hk
      · rename_i hkn
        have hkz : k < zs.length := by omega
        rw [List.getElem?_eq_getElem hkz] at hk
        have hcl := hcell k hkz
        refine ⟨x, rfl, by have := World.block_lt_of_cell? W _ hcl; rwa [add_block] at this, ?_⟩
        simp only [Option.map_some, Option.some.injEq] at hk
        rw [hcl, ← hk, iV, List.getD_eq_getElem?_getD, List.getElem?_eq_getElem hkz]
        rfl
      · cases hk
set_option maxRecDepth 100000 in
theorem open_ops8 {v : Value} {d : DataW H} {p : List MemPlace} (hv : Value.okWide Try.prog W r base 38 v) (h : DataW.Trod enc Try.prog W 0 (fun _ => true) true 38 v d p) {ts : List TypeId} {ds : List (DataW H)} (hsz : (DataW.weightsEach Try.prog ts ds).all (· ≤ reachBytes) = true) {j : Nat}
    (hj : ts[j]? = some 38) (hd : ds[j]? = some d) :
    ∃ A n c os, v = .slice A n c ∧ Ops8 W A n c os := by
  obtain ⟨A, n, c, rfl⟩ := okWide_slice Try.underlying38 hv
  obtain ⟨fuel, hf⟩ := h
  have ce : Try.prog.cellsOf 49 = 7 := by kernel_rfl
  have c_int : Try.prog.cellsOf 3 = 1 := by kernel_rfl
  have c_string : Try.prog.cellsOf 9 = 1 := by kernel_rfl
  have c_suint8 : Try.prog.cellsOf 23 = 1 := by kernel_rfl
  have c_sint : Try.prog.cellsOf 39 = 1 := by kernel_rfl
  have c_uint32 : Try.prog.cellsOf 47 = 1 := by kernel_rfl
  rcases DataW.trod_slice Try.underlying38 hf with ⟨hcs, _⟩ | ⟨ad, len, cap, elems, rest, k, _, hcs, hxd, _, hl, hmx, hlen, hel, _⟩
  · simp [Value.cells] at hcs
    obtain ⟨rfl, rfl, rfl⟩ := hcs
    exact ⟨none, 0, 0, [], rfl, ⟨rfl, Nat.le_refl _, by omega, fun i hi => absurd hi (Nat.not_lt_zero i)⟩⟩
  · simp [Value.cells] at hcs
    obtain ⟨rfl, rfl, rfl⟩ := hcs
    have hdd : d = .slice (elems.map (·.1)) (rest.map (·.1)) := by
      simp only [Prod.mk.injEq] at hxd
      exact hxd.1
    have wt : ∀ z ∈ d.weights Try.prog 38, z ≤ 140737488351232 := fun z hz => by
      have := List.all_eq_true.1 hsz _ (DataW.weights_mem_each hj hd _ hz)
      have h2 : z ≤ reachBytes := by simpa using this
      unfold reachBytes at h2
      omega
    have wtop : n ≤ 140737488351232 := by
      have := wt ((elems.length + rest.length) * 104) (by
        rw [hdd]
        simp only [DataW.weights, Try.underlying38]
        refine List.mem_cons.2 (.inl ?_)
        rw [show Try.prog.bytesOf 49 = 104 by kernel_rfl]
        simp only [List.length_map])
      omega
    have wts : ∀ (i : Nat) e, elems[i]? = some e → ∀ z ∈ e.1.weights Try.prog 49, z ≤ 140737488351232 := fun i e he z hz => wt z (by
      rw [hdd]
      simp only [DataW.weights, Try.underlying38]
      exact List.mem_cons_of_mem _ (List.mem_append_left _ (weights_all (List.mem_map.2 ⟨e, List.mem_of_getElem? he, rfl⟩) hz)))
    have each : ∀ i, i < n → ∃ q : O8 × P8, O8At W q.1 q.2 ∧ ∀ k, k < 7 → W.cell? ((ad.add (i * 7)).add k) = (o8V q.1 q.2)[k]? := by
      intro i hi
      have h1 := hel i hi
      have hei : elems[i]? = some elems[i] := List.getElem?_eq_getElem (by omega)
      have wti := wts i _ hei
      rw [ce, hei] at h1
      obtain ⟨cs', h2, h3⟩ := Option.bind_eq_some_iff.1 h1
      obtain ⟨_, hlen', hcell⟩ := World.cells?_some h2
      obtain ⟨ys, k', _, hxa, _, hyl, hf⟩ := DataW.trod_struct Try.underlying49 h3
      rw [hxa] at wti
      match ys, hyl, cs', hlen', wti with
      | [y0, y1, y2, y3, y4, y5, y6], _, [v0, v1, v2, v3, v4, v5, v6], _, wti =>
        have wti : ∀ z ∈ y0.1.weights Try.prog 3 ++ (y1.1.weights Try.prog 9 ++ (y2.1.weights Try.prog 9 ++ (y3.1.weights Try.prog 23 ++ (y4.1.weights Try.prog 3 ++ (y5.1.weights Try.prog 39 ++ (y6.1.weights Try.prog 47 ++ [])))))), z ≤ 140737488351232 := fun z hz => wti z (by
          simp only [DataW.weights, Try.underlying49, List.map_cons, List.map_nil, DataW.weightsEach]
          exact hz)
        have g0 : DataW.trod enc Try.prog W 0 (fun _ => true) true k' 3 [v0] = some y0 := by
          have h := hf 0 { name := "What", type := 3, offset := 0, embedded := false, tag := "", pkgPath := "", byteOffset := 0 } rfl
          dsimp only at h
          rw [c_int] at h
          exact h
        have g1 : DataW.trod enc Try.prog W 0 (fun _ => true) true k' 9 [v1] = some y1 := by
          have h := hf 1 { name := "Name", type := 9, offset := 1, embedded := false, tag := "", pkgPath := "", byteOffset := 8 } rfl
          dsimp only at h
          rw [c_string] at h
          exact h
        have g2 : DataW.trod enc Try.prog W 0 (fun _ => true) true k' 9 [v2] = some y2 := by
          have h := hf 2 { name := "To", type := 9, offset := 2, embedded := false, tag := "", pkgPath := "", byteOffset := 24 } rfl
          dsimp only at h
          rw [c_string] at h
          exact h
        have g3 : DataW.trod enc Try.prog W 0 (fun _ => true) true k' 23 [v3] = some y3 := by
          have h := hf 3 { name := "B", type := 23, offset := 3, embedded := false, tag := "", pkgPath := "", byteOffset := 40 } rfl
          dsimp only at h
          rw [c_suint8] at h
          exact h
        have g4 : DataW.trod enc Try.prog W 0 (fun _ => true) true k' 3 [v4] = some y4 := by
          have h := hf 4 { name := "N", type := 3, offset := 4, embedded := false, tag := "", pkgPath := "", byteOffset := 64 } rfl
          dsimp only at h
          rw [c_int] at h
          exact h
        have g5 : DataW.trod enc Try.prog W 0 (fun _ => true) true k' 39 [v5] = some y5 := by
          have h := hf 5 { name := "Bytes", type := 39, offset := 5, embedded := false, tag := "", pkgPath := "", byteOffset := 72 } rfl
          dsimp only at h
          rw [c_sint] at h
          exact h
        have g6 : DataW.trod enc Try.prog W 0 (fun _ => true) true k' 47 [v6] = some y6 := by
          have h := hf 6 { name := "Bits", type := 47, offset := 6, embedded := false, tag := "", pkgPath := "", byteOffset := 96 } rfl
          dsimp only at h
          rw [c_uint32] at h
          exact h
        obtain ⟨z0, e0, _, b0⟩ := DataW.trod_int Try.underlying3 g0
        obtain ⟨z1, e1, x1, b1⟩ := DataW.trod_string Try.underlying9 g1
        obtain ⟨z2, e2, x2, b2⟩ := DataW.trod_string Try.underlying9 g2
        obtain ⟨BA, bn, bc, bs, e3, hB, hBw⟩ := open_sl8 g3
        obtain ⟨z4, e4, _, b4⟩ := DataW.trod_int Try.underlying3 g4
        obtain ⟨IA, im, ic, is, e5, hI, hIw, hIb⟩ := open_is8 g5
        obtain ⟨z6, e6, _, b6⟩ := DataW.trod_int Try.underlying47 g6
        have c0 := hcell 0 (by omega)
        have c1 := hcell 1 (by omega)
        have c2 := hcell 2 (by omega)
        have c3 := hcell 3 (by omega)
        have c4 := hcell 4 (by omega)
        have c5 := hcell 5 (by omega)
        have c6 := hcell 6 (by omega)
        simp at c0 c1 c2 c3 c4 c5 c6 e0 e1 e2 e4 e6
        subst e0 e1 e2 e3 e4 e5 e6
        refine ⟨(⟨z0, z1.data.toList, z2.data.toList, bs, z4, is, z6⟩, ⟨BA, bn, bc, IA, im, ic⟩), ⟨bounds_i64 b0, ?_, ?_, hB, bounds_i64 b4, hI, hIb, bounds_u32 b6, ⟨?_, ?_, ?_, ?_⟩⟩, fun k hk => ?_⟩
        · have : z1.data.toList.length = z1.size := Array.length_toList
          unfold maxLen at b1
          show z1.data.toList.length ≤ _
          omega
        · have : z2.data.toList.length = z2.size := Array.length_toList
          unfold maxLen at b2
          show z2.data.toList.length ≤ _
          omega
        · refine wti _ (List.mem_append_right _ (List.mem_append_left _ ?_))
          rw [x1]
          simp only [DataW.weights]
          exact List.mem_singleton.2 rfl
        · refine wti _ (List.mem_append_right _ (List.mem_append_right _ (List.mem_append_left _ ?_)))
          rw [x2]
          simp only [DataW.weights]
          exact List.mem_singleton.2 rfl
        · have hlen := hB.len
          have hcap := hB.cap
          show bs.length ≤ _
          rcases hBw with h | h
          · omega
          · have := wti _ (List.mem_append_right _ (List.mem_append_right _ (List.mem_append_right _ (List.mem_append_left _ h))))
            omega
        · have hlen := hI.len
          have hcap := hI.cap
          show is.length ≤ _
          rcases hIw with h | h
          · omega
          · have := wti _ (List.mem_append_right _ (List.mem_append_right _ (List.mem_append_right _ (List.mem_append_right _ (List.mem_append_right _ (List.mem_append_left _ h))))))
            omega
        · match k, hk with
          | 0, _ => exact c0
          | 1, _ => exact c1
          | 2, _ => exact c2
          | 3, _ => exact c3
          | 4, _ => exact c4
          | 5, _ => exact c5
          | 6, _ => exact c6
    obtain ⟨f, hf⟩ := Go.Deep.choose_lt each
    refine ⟨some ad, n, c, (List.range n).map fun i => (f i).1, rfl, ⟨by simp, hl, wtop, fun i hi => ?_⟩⟩
    obtain ⟨h1, h2⟩ := hf i hi
    refine ⟨ad, (f i).1, (f i).2, rfl, ?_, by rw [List.getElem?_map, List.getElem?_range hi]; rfl, h1, h2⟩
    have := World.block_lt_of_cell? W _ (h2 0 (by omega) : _ = some (Value.int .i64 (f i).1.what))
    rwa [add_block, add_block] at this
set_option maxRecDepth 100000 in
theorem open_i64b {v : Value} {d : DataW H} {p : List MemPlace} (hv : Value.okWide Try.prog W r base 39 v) (h : DataW.Trod enc Try.prog W 0 (fun _ => true) true 39 v d p) :
    ∃ A n c xs, v = .slice A n c ∧ Ints W A n c xs ∧ ∀ x ∈ xs, -9223372036854775808 ≤ x ∧ x ≤ 9223372036854775807 := by
  obtain ⟨A, n, c, rfl⟩ := okWide_slice Try.underlying39 hv
  obtain ⟨fuel, hf⟩ := h
  obtain ⟨A', n', c', xs, h1, h2, _, h3⟩ := open_is8 (a := .slice A n c) hf
  exact ⟨A', n', c', xs, h1, h2, h3⟩
end
theorem O8At.grow {w w' : World} {o : O8} {p : P8} (h : O8At w o p) (hg : Grows w w') : O8At w' o p := ⟨h.what, h.name, h.to, h.b.grow hg, h.n, h.bytes.grow hg, h.each, h.bits, h.small⟩
theorem Ops8.grow {w w' : World} {A : Option Addr} {n c : Nat} {os : List O8} (h : Ops8 w A n c os) (hg : Grows w w') : Ops8 w' A n c os := by
  refine ⟨h.len, h.cap, h.top, fun i hi => ?_⟩
  obtain ⟨ad, o, p, h1, h2, h3, h4, h5⟩ := h.spot i hi
  exact ⟨ad, o, p, h1, Nat.lt_of_lt_of_le h2 hg.size, h3, h4.grow hg, fun k hk => by rw [hg.cell (by rw [add_block, add_block]; exact h2)]; exact h5 k hk⟩
end Go.Proofs.Ytmfhpfehphbklaa
