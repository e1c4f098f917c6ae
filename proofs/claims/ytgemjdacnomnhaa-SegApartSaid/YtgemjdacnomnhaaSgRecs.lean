/-
  Records that came in, as a list.
-/
import Derived.Test.YtgemjdacnomnhaaRcIn
import Derived.Test.YtgemjdacnomnhaaMH
namespace Go.Proofs.Ytgemjdacnomnhaa
open Go.ChangeShapes Go.WideShapes Go.ChangeAt Go.RowKit
set_option linter.unusedVariables false

instance : Inhabited (Rc × Fh) := ⟨(Rc.none, ((Option.none, 0, 0), (Option.none, 0, 0)))⟩
def rcL (x : Rc) (p : Fh) : List Value := [.int .i64 x.kind, .string ⟨x.key.toArray⟩, .int .i64 x.id, .int .i64 x.no, .int .i64 x.size, .slice p.1.1 p.1.2.1 p.1.2.2, .slice p.2.1 p.2.2.1 p.2.2.2]
/-- The list, as functions are handed it. -/
structure Recs (w : World) (A : Option Addr) (n c : Nat) (rs : List Rc) : Prop where
  len : rs.length = n
  cap : n ≤ c
  spot : ∀ i, i < n → ∃ (ad : Addr) (r : Rc) (p : Fh), A = some ad ∧ ad.block < w.heap.size ∧ rs[i]? = some r ∧ RcIn w p.1.1 p.1.2.1 p.1.2.2 p.2.1 p.2.2.1 p.2.2.2 r ∧ ∀ k, k < 7 → w.cell? ((ad.add (i * 7)).add k) = (rcL r p)[k]?
theorem Recs.grow {w w' : World} {A : Option Addr} {n c : Nat} {rs : List Rc} (h : Recs w A n c rs) (hg : Grows w w') : Recs w' A n c rs := by
  refine ⟨h.len, h.cap, fun i hi => ?_⟩
  obtain ⟨ad, o, p, h1, h2, h3, h4, h5⟩ := h.spot i hi
  exact ⟨ad, o, p, h1, Nat.lt_of_lt_of_le h2 hg.size, h3, h4.grow hg, fun k hk => by rw [hg.cell (by rw [add_block, add_block]; exact h2)]; exact h5 k hk⟩
theorem rc_cells {w wr : World} {a : Addr} {o : Rc} {p : Fh} (hb : a.block < w.heap.size) (hc : ∀ k, k < 7 → w.cell? (a.add k) = (rcL o p)[k]?) (hg : Grows w wr) :
    wr.cell? a = some (.int .i64 o.kind) ∧ wr.cell? { block := a.block, off := a.off + 1 } = some (.string ⟨o.key.toArray⟩) ∧ wr.cell? { block := a.block, off := a.off + 2 } = some (.int .i64 o.id) ∧
      wr.cell? { block := a.block, off := a.off + 3 } = some (.int .i64 o.no) ∧ wr.cell? { block := a.block, off := a.off + 4 } = some (.int .i64 o.size) ∧ wr.cell? { block := a.block, off := a.off + 5 } = some (.slice p.1.1 p.1.2.1 p.1.2.2) ∧
      wr.cell? { block := a.block, off := a.off + 6 } = some (.slice p.2.1 p.2.2.1 p.2.2.2) := by
  have key : ∀ k, k < 7 → wr.cell? (a.add k) = (rcL o p)[k]? := fun k hk => (hg.cell (by rw [add_block]; exact hb)).trans (hc k hk)
  have h0 := key 0 (by omega)
  rw [show a.add 0 = a by unfold Addr.add; simp] at h0
  have h1 := key 1 (by omega)
  have h2 := key 2 (by omega)
  have h3 := key 3 (by omega)
  have h4 := key 4 (by omega)
  have h5 := key 5 (by omega)
  have h6 := key 6 (by omega)
  rw [Addr.add_succ'] at h1 h2 h3 h4 h5 h6
  exact ⟨h0, h1, h2, h3, h4, h5, h6⟩

section
variable {H : Type} {enc : TypeId × Value → H} {W : World} {base : Nat} {r : Reach}
set_option maxRecDepth 100000 in
theorem open_recs {v : Value} {d : DataW H} {p : List MemPlace} (hv : Value.okWide Try.prog W r base 47 v) (h : DataW.Trod enc Try.prog W 0 (fun _ => true) true 47 v d p) :
    ∃ A n c rs, v = .slice A n c ∧ Recs W A n c rs := by
  obtain ⟨A, n, c, rfl⟩ := okWide_slice Try.underlying47 hv
  obtain ⟨fuel, hf⟩ := h
  have ce : Try.prog.cellsOf 52 = 7 := by kernel_rfl
  have c_int : Try.prog.cellsOf 3 = 1 := by kernel_rfl
  have c_string : Try.prog.cellsOf 9 = 1 := by kernel_rfl
  have c_int64 : Try.prog.cellsOf 2 = 1 := by kernel_rfl
  have c_sapi_Loc : Try.prog.cellsOf 50 = 1 := by kernel_rfl
  have c_suint8 : Try.prog.cellsOf 30 = 1 := by kernel_rfl
  rcases DataW.trod_slice Try.underlying47 hf with ⟨hcs, _⟩ | ⟨ad, len, cap, elems, rest, k, _, hcs, hxd, _, hl, hmx, hlen, hel, _⟩
  · simp [Value.cells] at hcs
    obtain ⟨rfl, rfl, rfl⟩ := hcs
    exact ⟨none, 0, 0, [], rfl, ⟨rfl, Nat.le_refl _, fun i hi => absurd hi (Nat.not_lt_zero i)⟩⟩
  · simp [Value.cells] at hcs
    obtain ⟨rfl, rfl, rfl⟩ := hcs
    have each : ∀ i, i < n → ∃ q : Rc × Fh, RcIn W q.2.1.1 q.2.1.2.1 q.2.1.2.2 q.2.2.1 q.2.2.2.1 q.2.2.2.2 q.1 ∧ ∀ k, k < 7 → W.cell? ((ad.add (i * 7)).add k) = (rcL q.1 q.2)[k]? := by
      intro i hi
      have h1 := hel i hi
      have hei : elems[i]? = some elems[i] := List.getElem?_eq_getElem (by omega)
      rw [ce, hei] at h1
      obtain ⟨cs', h2, h3⟩ := Option.bind_eq_some_iff.1 h1
      obtain ⟨_, hlen', hcell⟩ := World.cells?_some h2
      obtain ⟨ys, k', _, hxa, _, hyl, hf⟩ := DataW.trod_struct Try.underlying52 h3
      match ys, hyl, cs', hlen' with
      | [y0, y1, y2, y3, y4, y5, y6], _, [v0, v1, v2, v3, v4, v5, v6], _ =>
        have g0 : DataW.trod enc Try.prog W 0 (fun _ => true) true k' 3 [v0] = some y0 := by
          have h := hf 0 { name := "Kind", type := 3, offset := 0, embedded := false, tag := "", pkgPath := "", byteOffset := 0 } rfl
          dsimp only at h
          rw [c_int] at h
          exact h
        have g1 : DataW.trod enc Try.prog W 0 (fun _ => true) true k' 9 [v1] = some y1 := by
          have h := hf 1 { name := "Key", type := 9, offset := 1, embedded := false, tag := "", pkgPath := "", byteOffset := 8 } rfl
          dsimp only at h
          rw [c_string] at h
          exact h
        have g2 : DataW.trod enc Try.prog W 0 (fun _ => true) true k' 2 [v2] = some y2 := by
          have h := hf 2 { name := "Id", type := 2, offset := 2, embedded := false, tag := "", pkgPath := "", byteOffset := 24 } rfl
          dsimp only at h
          rw [c_int64] at h
          exact h
        have g3 : DataW.trod enc Try.prog W 0 (fun _ => true) true k' 3 [v3] = some y3 := by
          have h := hf 3 { name := "No", type := 3, offset := 3, embedded := false, tag := "", pkgPath := "", byteOffset := 32 } rfl
          dsimp only at h
          rw [c_int] at h
          exact h
        have g4 : DataW.trod enc Try.prog W 0 (fun _ => true) true k' 3 [v4] = some y4 := by
          have h := hf 4 { name := "Size", type := 3, offset := 4, embedded := false, tag := "", pkgPath := "", byteOffset := 40 } rfl
          dsimp only at h
          rw [c_int] at h
          exact h
        have g5 : DataW.trod enc Try.prog W 0 (fun _ => true) true k' 50 [v5] = some y5 := by
          have h := hf 5 { name := "Locs", type := 50, offset := 5, embedded := false, tag := "", pkgPath := "", byteOffset := 48 } rfl
          dsimp only at h
          rw [c_sapi_Loc] at h
          exact h
        have g6 : DataW.trod enc Try.prog W 0 (fun _ => true) true k' 30 [v6] = some y6 := by
          have h := hf 6 { name := "B", type := 30, offset := 6, embedded := false, tag := "", pkgPath := "", byteOffset := 72 } rfl
          dsimp only at h
          rw [c_suint8] at h
          exact h
        obtain ⟨z0, e0, _⟩ := DataW.trod_int Try.underlying3 g0
        obtain ⟨z1, e1, _⟩ := DataW.trod_string Try.underlying9 g1
        obtain ⟨z2, e2, _⟩ := DataW.trod_int Try.underlying2 g2
        obtain ⟨z3, e3, _⟩ := DataW.trod_int Try.underlying3 g3
        obtain ⟨z4, e4, _⟩ := DataW.trod_int Try.underlying3 g4
        obtain ⟨LA, ln, lc, ls, e5, hL⟩ := open_locs g5
        obtain ⟨BA, bn, bc, bs, e6, hB⟩ := open_sl g6
        have c0 := hcell 0 (by omega)
        have c1 := hcell 1 (by omega)
        have c2 := hcell 2 (by omega)
        have c3 := hcell 3 (by omega)
        have c4 := hcell 4 (by omega)
        have c5 := hcell 5 (by omega)
        have c6 := hcell 6 (by omega)
        simp at c0 c1 c2 c3 c4 c5 c6 e0 e1 e2 e3 e4
        subst e0 e1 e2 e3 e4 e5 e6
        refine ⟨(⟨z0, z1.data.toList, z2, z3, z4, ls, bs⟩, ((LA, ln, lc), (BA, bn, bc))), ⟨hL, hB⟩, fun k hk => ?_⟩
        match k, hk with
        | 0, _ => exact c0
        | 1, _ => exact c1
        | 2, _ => exact c2
        | 3, _ => exact c3
        | 4, _ => exact c4
        | 5, _ => exact c5
        | 6, _ => exact c6
    obtain ⟨f, hf⟩ := Go.Deep.choose_lt each
    refine ⟨some ad, n, c, (List.range n).map fun i => (f i).1, rfl, ⟨by simp, hl, fun i hi => ?_⟩⟩
    obtain ⟨h1, h2⟩ := hf i hi
    refine ⟨ad, (f i).1, (f i).2, rfl, ?_, by rw [List.getElem?_map, List.getElem?_range hi]; rfl, h1, h2⟩
    have := World.block_lt_of_cell? W _ (h2 0 (by omega) : _ = some (Value.int .i64 (f i).1.kind))
    rwa [add_block, add_block] at this
end
end Go.Proofs.Ytgemjdacnomnhaa
