/-
  A record that came in: what a walk is told of it.
-/
import Derived.Test.YtdkpbphgaenlnaaCame
import Derived.Test.YtdkpbphgaenlnaaMD
import Derived.Deep.SlicePairs
namespace Go.Proofs.Ytdkpbphgaenlnaa
open Go.ChangeShapes Go.WideShapes Go.ChangeAt Go.RowKit

section
variable {H : Type} {enc : TypeId × Value → H} {W : World} {base : Nat} {r : Reach}
set_option maxRecDepth 100000 in
theorem open_sl {m : Nat} {a : Value} {x : DataW H × List MemPlace} (h : DataW.trod enc Try.prog W 0 (fun _ => true) true m 25 [a] = some x) : ∃ A n c bs, a = .slice A n c ∧ Sl W A n c bs := by
  rcases open_ints Try.underlying25 Try.underlying5 (by kernel_rfl) h with ⟨hcs, _⟩ | ⟨x, l, c, zs, hcs, _, hl, hm, hz, _, hcell, hwz⟩
  · simp at hcs
    exact ⟨none, 0, 0, [], hcs, Sl.nil _⟩
  · simp at hcs
    have hz' : zs.length = c := by simpa using hz
    refine ⟨some x, l, c, (zs.take l).map (fun z => UInt8.ofNat z.toNat), hcs, ⟨?_, ?_⟩, hl, fun h => by cases h⟩
    · rw [List.length_map, List.length_map, List.length_take]
      omega
    · intro k v hk
      rw [List.map_map, List.getElem?_map, List.getElem?_take] at hk
      split at hk
      · rename_i hkn
        have hkz : k < zs.length := by omega
        rw [List.getElem?_eq_getElem hkz] at hk
        have hcl := hcell k hkz
        refine ⟨x, rfl, by have := World.block_lt_of_cell? W _ hcl; rwa [add_block] at this, ?_⟩
        have hw := u8_of_wf (hwz zs[k] (List.getElem_mem hkz))
        have hv' : v = byteV (UInt8.ofNat zs[k].toNat) := by
          simp only [Option.map_some, Function.comp, Option.some.injEq] at hk
          exact hk.symm
        rw [hcl, hv', byteV, hw, List.getD_eq_getElem?_getD, List.getElem?_eq_getElem hkz]
        rfl
      · cases hk
set_option maxRecDepth 100000 in
theorem open_locs {m : Nat} {a : Value} {x : DataW H × List MemPlace} (h : DataW.trod enc Try.prog W 0 (fun _ => true) true m 57 [a] = some x) : ∃ A n c ls, a = .slice A n c ∧ Locs W A n c ls := by
  have ce : Try.prog.cellsOf 116 = 3 := by kernel_rfl
  have ci : Try.prog.cellsOf 3 = 1 := by kernel_rfl
  rcases DataW.trod_slice Try.underlying57 h with ⟨hcs, _⟩ | ⟨ad, len, cap, elems, rest, k, _, hcs, _, _, hl, _, hlen, hel, _⟩
  · simp at hcs
    exact ⟨none, 0, 0, [], hcs, Locs.nil _⟩
  · simp at hcs
    have each : ∀ i, i < len → ∃ l : Lc, W.cell? (ad.add (i * 3)) = some (.int .i64 l.1) ∧ W.cell? (ad.add (i * 3 + 1)) = some (.int .i64 l.2.1) ∧ W.cell? (ad.add (i * 3 + 2)) = some (.int .i64 l.2.2) := by
      intro i hi
      have h1 := hel i hi
      rw [ce, List.getElem?_eq_getElem (by omega)] at h1
      obtain ⟨cs', h2, h3⟩ := Option.bind_eq_some_iff.1 h1
      obtain ⟨_, hlen', hcell⟩ := World.cells?_some h2
      obtain ⟨ys, k', _, _, _, hyl, hf⟩ := DataW.trod_struct Try.underlying116 h3
      match ys, hyl, cs', hlen' with
      | [y0, y1, y2], _, [v0, v1, v2], _ =>
        have g0 : DataW.trod enc Try.prog W 0 (fun _ => true) true k' 3 [v0] = some y0 := by
          have h := hf 0 { name := "Seg", type := 3, offset := 0, embedded := false, tag := "", pkgPath := "", byteOffset := 0 } rfl
          dsimp only at h
          rw [ci] at h
          exact h
        have g1 : DataW.trod enc Try.prog W 0 (fun _ => true) true k' 3 [v1] = some y1 := by
          have h := hf 1 { name := "At", type := 3, offset := 1, embedded := false, tag := "", pkgPath := "", byteOffset := 8 } rfl
          dsimp only at h
          rw [ci] at h
          exact h
        have g2 : DataW.trod enc Try.prog W 0 (fun _ => true) true k' 3 [v2] = some y2 := by
          have h := hf 2 { name := "N", type := 3, offset := 2, embedded := false, tag := "", pkgPath := "", byteOffset := 16 } rfl
          dsimp only at h
          rw [ci] at h
          exact h
        obtain ⟨z0, e0, _⟩ := DataW.trod_int Try.underlying3 g0
        obtain ⟨z1, e1, _⟩ := DataW.trod_int Try.underlying3 g1
        obtain ⟨z2, e2, _⟩ := DataW.trod_int Try.underlying3 g2
        have c0 := hcell 0 (by omega)
        have c1 := hcell 1 (by omega)
        have c2 := hcell 2 (by omega)
        rw [add_twice] at c0 c1 c2
        simp at c0 c1 c2 e0 e1 e2
        subst e0 e1 e2
        exact ⟨(z0, z1, z2), c0, c1, c2⟩
    obtain ⟨f, hf⟩ := Go.Deep.choose_lt each
    refine ⟨some ad, len, cap, (List.range len).map f, hcs, by simp, hl, (fun h => by cases h), ⟨by rw [lcCells_length]; simp, fun k v hv => ?_⟩⟩
    have hk : k < 3 * len := by
      rcases Nat.lt_or_ge k (3 * len) with h | h
      · exact h
      · rw [List.getElem?_eq_none (by rw [lcCells_length]; simpa using h)] at hv
        cases hv
    obtain ⟨i, j, e, hj, hi⟩ : ∃ i j, k = 3 * i + j ∧ j < 3 ∧ i < len := ⟨k / 3, k % 3, by omega, by omega, by omega⟩
    have hg : ((List.range len).map f)[i]? = some (f i) := by rw [List.getElem?_map, List.getElem?_range hi]; rfl
    obtain ⟨g0, g1, g2⟩ := lcCells_get _ i _ hg
    obtain ⟨c0, c1, c2⟩ := hf i hi
    have hcell : W.cell? (ad.add k) = some v := by
      match j, hj with
      | 0, _ =>
        subst e
        rw [show 3 * i + 0 = 3 * i from rfl] at hv ⊢
        rw [g0] at hv
        rw [Nat.mul_comm, c0]
        exact hv
      | 1, _ =>
        subst e
        rw [g1] at hv
        rw [Nat.mul_comm, c1]
        exact hv
      | 2, _ =>
        subst e
        rw [g2] at hv
        rw [Nat.mul_comm, c2]
        exact hv
    exact ⟨ad, rfl, by have := World.block_lt_of_cell? W _ hcell; rwa [add_block] at this, hcell⟩
set_option maxRecDepth 100000 in
theorem open_rec {v : Value} {d : DataW H} {p : List MemPlace} (hv : Value.okWide Try.prog W r base 59 v) (h : DataW.Trod enc Try.prog W 0 (fun _ => true) true 59 v d p) :
    ∃ (x : Rc) (LA : Option Addr) (ln lc : Nat) (BA : Option Addr) (bn bc : Nat), v = .agg #[.int .i64 x.kind, .string ⟨x.key.toArray⟩, .int .i64 x.id, .int .i64 x.no, .int .i64 x.size, .slice LA ln lc, .slice BA bn bc] ∧ RcIn W LA ln lc BA bn bc x := by
  obtain ⟨fuel, hf⟩ := h
  obtain ⟨xs, m, e1, e2, e3, e4, e5⟩ := DataW.trod_struct Try.underlying59 hf
  have c7 : Try.prog.cellsOf 59 = 7 := by kernel_rfl
  have ci : Try.prog.cellsOf 3 = 1 := by kernel_rfl
  have ci2 : Try.prog.cellsOf 2 = 1 := by kernel_rfl
  have cs : Try.prog.cellsOf 9 = 1 := by kernel_rfl
  have cl : Try.prog.cellsOf 57 = 1 := by kernel_rfl
  have cb : Try.prog.cellsOf 25 = 1 := by kernel_rfl
  simp only [Value.okWide, Try.underlying59] at hv
  obtain ⟨cells, rfl, hsz, _⟩ := hv
  rw [c7] at hsz
  have hcl : (Value.agg cells).cells.toList = cells.toList := rfl
  rw [hcl] at e5
  obtain ⟨l, hl⟩ : ∃ l, cells.toList = l := ⟨_, rfl⟩
  have hll : l.length = 7 := by rw [← hl]; simpa using hsz
  have hca : cells = l.toArray := by rw [← hl]
  rw [hl] at e5
  match xs, e4, l, hll with
  | [x0, x1, x2, x3, x4, x5, x6], _, [a0, a1, a2, a3, a4, a5, a6], _ =>
    have g0 : DataW.trod enc Try.prog W 0 (fun _ => true) true m 3 [a0] = some x0 := by
      have h := e5 0 { name := "Kind", type := 3, offset := 0, embedded := false, tag := "", pkgPath := "", byteOffset := 0 } rfl
      dsimp only at h
      rw [ci] at h
      exact h
    have g1 : DataW.trod enc Try.prog W 0 (fun _ => true) true m 9 [a1] = some x1 := by
      have h := e5 1 { name := "Key", type := 9, offset := 1, embedded := false, tag := "", pkgPath := "", byteOffset := 8 } rfl
      dsimp only at h
      rw [cs] at h
      exact h
    have g2 : DataW.trod enc Try.prog W 0 (fun _ => true) true m 2 [a2] = some x2 := by
      have h := e5 2 { name := "Id", type := 2, offset := 2, embedded := false, tag := "", pkgPath := "", byteOffset := 24 } rfl
      dsimp only at h
      rw [ci2] at h
      exact h
    have g3 : DataW.trod enc Try.prog W 0 (fun _ => true) true m 3 [a3] = some x3 := by
      have h := e5 3 { name := "No", type := 3, offset := 3, embedded := false, tag := "", pkgPath := "", byteOffset := 32 } rfl
      dsimp only at h
      rw [ci] at h
      exact h
    have g4 : DataW.trod enc Try.prog W 0 (fun _ => true) true m 3 [a4] = some x4 := by
      have h := e5 4 { name := "Size", type := 3, offset := 4, embedded := false, tag := "", pkgPath := "", byteOffset := 40 } rfl
      dsimp only at h
      rw [ci] at h
      exact h
    have g5 : DataW.trod enc Try.prog W 0 (fun _ => true) true m 57 [a5] = some x5 := by
      have h := e5 5 { name := "Locs", type := 57, offset := 5, embedded := false, tag := "", pkgPath := "", byteOffset := 48 } rfl
      dsimp only at h
      rw [cl] at h
      exact h
    have g6 : DataW.trod enc Try.prog W 0 (fun _ => true) true m 25 [a6] = some x6 := by
      have h := e5 6 { name := "B", type := 25, offset := 6, embedded := false, tag := "", pkgPath := "", byteOffset := 72 } rfl
      dsimp only at h
      rw [cb] at h
      exact h
    obtain ⟨z0, q0, _⟩ := DataW.trod_int Try.underlying3 g0
    obtain ⟨z1, q1, _⟩ := DataW.trod_string Try.underlying9 g1
    obtain ⟨z2, q2, _⟩ := DataW.trod_int Try.underlying2 g2
    obtain ⟨z3, q3, _⟩ := DataW.trod_int Try.underlying3 g3
    obtain ⟨z4, q4, _⟩ := DataW.trod_int Try.underlying3 g4
    obtain ⟨LA, ln, lc, ls, q5, hL⟩ := open_locs g5
    obtain ⟨BA, bn, bc, bs, q6, hB⟩ := open_sl g6
    simp at q0 q1 q2 q3 q4
    subst q0 q1 q2 q3 q4 q5 q6
    exact ⟨⟨z0, z1.data.toList, z2, z3, z4, ls, bs⟩, LA, ln, lc, BA, bn, bc, by rw [hca], ⟨hL, hB⟩⟩
end
end Go.Proofs.Ytdkpbphgaenlnaa
