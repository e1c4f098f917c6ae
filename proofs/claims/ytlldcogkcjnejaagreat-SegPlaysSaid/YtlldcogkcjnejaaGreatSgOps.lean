import Derived.Test.YtlldcogkcjnejaaGreatMG34
import Derived.Test.YtlldcogkcjnejaaGreatMG15
namespace Go.Proofs.YtlldcogkcjnejaaGreat
open Go.ChangeShapes Go.WideShapes Go.ChangeAt Go.RowKit

structure O9 where
 what : Int
 n : Int
 x : Rc
 at' : Int
 bytes : List Int
 bits : Int
structure P9 where
 LA : Option Addr
 ln : Nat
 lc : Nat
 BA : Option Addr
 bn : Nat
 bc : Nat
 IA : Option Addr
 im : Nat
 ic : Nat
instance : Inhabited O9 := ⟨⟨0, 0, Rc.none, 0, [], 0⟩⟩
instance : Inhabited P9 := ⟨⟨none, 0, 0, none, 0, 0, none, 0, 0⟩⟩
def o9V (o : O9) (p : P9) : List Value := [.int .i64 o.what, .int .i64 o.n, .int .i64 o.x.kind, .string ⟨o.x.key.toArray⟩, .int .i64 o.x.id, .int .i64 o.x.no, .int .i64 o.x.size, .slice p.LA p.ln p.lc, .slice p.BA p.bn p.bc, .int .i64 o.at', .slice p.IA p.im p.ic, .int .u32 o.bits]
structure O9At (w : World) (o : O9) (p : P9) : Prop where
 what : -9223372036854775808 ≤ o.what ∧ o.what ≤ 9223372036854775807
 n : -9223372036854775808 ≤ o.n ∧ o.n ≤ 9223372036854775807
 x : RcIn w p.LA p.ln p.lc p.BA p.bn p.bc o.x
 at' : -9223372036854775808 ≤ o.at' ∧ o.at' ≤ 9223372036854775807
 bytes : Ints w p.IA p.im p.ic o.bytes
 each : ∀ x ∈ o.bytes, -9223372036854775808 ≤ x ∧ x ≤ 9223372036854775807
 bits : 0 ≤ o.bits ∧ o.bits ≤ 4294967295
 small : o.x.key.length ≤ 140737488351232 ∧ o.x.locs.length ≤ 140737488351232 ∧ o.x.b.length ≤ 140737488351232 ∧ o.bytes.length ≤ 140737488351232
structure Ops9 (w : World) (A : Option Addr) (n c : Nat) (os : List O9) : Prop where
 len : os.length = n
 cap : n ≤ c
 top : n ≤ 140737488351232
 spot : ∀ i, i < n → ∃ (ad : Addr) (o : O9) (p : P9), A = some ad ∧ ad.block < w.heap.size ∧ os[i]? = some o ∧ O9At w o p ∧ ∀ k, k < 12 → w.cell? ((ad.add (i * 12)).add k) = (o9V o p)[k]?
theorem O9At.grow {w w' : World} {o : O9} {p : P9} (h : O9At w o p) (hg : Grows w w') : O9At w' o p := ⟨h.what, h.n, h.x.grow hg, h.at', h.bytes.grow hg, h.each, h.bits, h.small⟩
theorem Ops9.grow {w w' : World} {A : Option Addr} {n c : Nat} {os : List O9} (h : Ops9 w A n c os) (hg : Grows w w') : Ops9 w' A n c os :=
 ⟨h.len, h.cap, h.top, fun i hi => by
  obtain ⟨ad, o, p, h1, h2, h3, h4, h5⟩ := h.spot i hi
  exact ⟨ad, o, p, h1, Nat.lt_of_lt_of_le h2 hg.size, h3, h4.grow hg, fun k hk => (hg.cell (by rw [Z4, Z4]; exact h2)).trans (h5 k hk)⟩⟩

section
variable {H : Type} {enc : TypeId × Value → H} {W : World} {base : Nat} {r : Reach}
set_option maxRecDepth 100000 in
theorem Zqf {m : Nat} {a : Value} {x : DataW H × List MemPlace} (h : DataW.trod enc Tryz.prog W 0 (fun _ => true) true m 34 [a] = some x) : ∃ A n c xs, a = .slice A n c ∧ Ints W A n c xs ∧ (n = 0 ∨ c * 8 ∈ x.1.weights Tryz.prog 34) ∧ ∀ x ∈ xs, -9223372036854775808 ≤ x ∧ x ≤ 9223372036854775807 := by
 rcases open_ints Tryz.underlying34 Tryz.underlying3 (by kernel_rfl) h with ⟨hcs, _⟩ | ⟨x, l, c, zs, hcs, _, hl, hm, hz, hx, hcell, hwz⟩
 ·simp at hcs
  exact ⟨none, 0, 0, [], hcs, ⟨Row.nil _ _ _, Nat.le_refl _, fun _ => rfl⟩, .inl rfl, fun x hx => by cases hx⟩
 ·simp at hcs
  have hz' : zs.length = c := by simpa using hz
  refine ⟨some x, l, c, zs.take l, hcs, ⟨⟨?_, fun k v hk => ?_⟩, hl, (fun h => by cases h)⟩, .inr ?_, fun y hy => bounds_i64 (hwz y (List.mem_of_mem_take hy))⟩
  rotate_right 1
  ·rw [hx]
   simp only [DataW.weights, Tryz.underlying34]
   refine List.mem_cons.2 (.inl ?_)
   rw [show Tryz.prog.bytesOf 3 = 8 by kernel_rfl]
   simp only [lits, List.length_map, List.length_take, List.length_drop]
   congr 1
   omega
  ·rw [List.length_map, List.length_take]
   omega
  ·rw [List.getElem?_map, List.getElem?_take] at hk
   split at hk
   ·rename_i hkn
    have hkz : k < zs.length := by omega
    rw [List.getElem?_eq_getElem hkz] at hk
    have hcl := hcell k hkz
    refine ⟨x, rfl, by have := World.block_lt_of_cell? W _ hcl; rwa [Z4] at this, ?_⟩
    simp only [Option.map_some, Option.some.injEq] at hk
    rw [hcl, ← hk, iV, List.getD_eq_getElem?_getD, List.getElem?_eq_getElem hkz]
    rfl
   ·cases hk
set_option maxRecDepth 100000 in
theorem Zqg {m : Nat} {a : Value} {x : DataW H × List MemPlace} (h : DataW.trod enc Tryz.prog W 0 (fun _ => true) true m 31 [a] = some x) : ∃ A n c bs, a = .slice A n c ∧ Sl W A n c bs ∧ (n = 0 ∨ c * 1 ∈ x.1.weights Tryz.prog 31) := by
 rcases open_ints Tryz.underlying31 Tryz.underlying5 (by kernel_rfl) h with ⟨hcs, _⟩ | ⟨x, l, c, zs, hcs, _, hl, hm, hz, hx, hcell, hwz⟩
 ·simp at hcs
  exact ⟨none, 0, 0, [], hcs, Sl.nil _, .inl rfl⟩
 ·simp at hcs
  have hz' : zs.length = c := by simpa using hz
  refine ⟨some x, l, c, (zs.take l).map (fun z => UInt8.ofNat z.toNat), hcs, ⟨⟨?_, ?_⟩, hl, fun h => by cases h⟩, .inr ?_⟩
  rotate_right 1
  ·rw [hx]
   simp only [DataW.weights, Tryz.underlying31]
   refine List.mem_cons.2 (.inl ?_)
   rw [show Tryz.prog.bytesOf 5 = 1 by kernel_rfl]
   simp only [lits, List.length_map, List.length_take, List.length_drop]
   congr 1
   omega
  ·rw [List.length_map, List.length_map, List.length_take]
   omega
  ·intro k v hk
   rw [List.map_map, List.getElem?_map, List.getElem?_take] at hk
   split at hk
   ·rename_i hkn
    have hkz : k < zs.length := by omega
    rw [List.getElem?_eq_getElem hkz] at hk
    have hcl := hcell k hkz
    refine ⟨x, rfl, by have := World.block_lt_of_cell? W _ hcl; rwa [Z4] at this, ?_⟩
    have hw := Zpa (hwz zs[k] (List.getElem_mem hkz))
    have hv' : v = byteV (UInt8.ofNat zs[k].toNat) := by
     simp only [Option.map_some, Function.comp, Option.some.injEq] at hk
     exact hk.symm
    rw [hcl, hv', byteV, hw, List.getD_eq_getElem?_getD, List.getElem?_eq_getElem hkz]
    rfl
   ·cases hk
theorem Zjb {m : Nat} {a : Value} {x : DataW H × List MemPlace} (h : DataW.trod enc Tryz.prog W 0 (fun _ => true) true m 30 [a] = some x) {A : Option Addr} {n c : Nat} (ha : a = .slice A n c) : n = 0 ∨ ∃ k, n ≤ k ∧ k * 24 ∈ x.1.weights Tryz.prog 30 := by
 subst ha
 rcases DataW.trod_slice Tryz.underlying30 h with ⟨hcs, _⟩ | ⟨ad, len, cap, elems, rest, k, _, hcs, hxd, _, hl, hmx, hlen, hel, _⟩
 ·simp at hcs
  exact .inl hcs.2.1
 ·simp at hcs
  obtain ⟨_, rfl, rfl⟩ := hcs
  refine .inr ⟨elems.length + rest.length, by omega, ?_⟩
  rw [hxd]
  simp only [DataW.weights, Tryz.underlying30]
  refine List.mem_cons.2 (.inl ?_)
  rw [show Tryz.prog.bytesOf 105 = 24 by kernel_rfl]
  simp only [List.length_map]
set_option maxRecDepth 100000 in
theorem Zoj {v : Value} {d : DataW H} {p : List MemPlace} (hv : Value.okWide Tryz.prog W r base 22 v) (h : DataW.Trod enc Tryz.prog W 0 (fun _ => true) true 22 v d p) {ts : List TypeId} {ds : List (DataW H)} (hsz : (DataW.weightsEach Tryz.prog ts ds).all (· ≤ reachBytes) = true) {j : Nat}
 (hj : ts[j]? = some 22) (hd : ds[j]? = some d) :
 ∃ A n c os, v = .slice A n c ∧ Ops9 W A n c os := by
 obtain ⟨A, n, c, rfl⟩ := okWide_slice Tryz.underlying22 hv
 obtain ⟨fuel, hf⟩ := h
 have ce : Tryz.prog.cellsOf 37 = 12 := by kernel_rfl
 have c_rec : Tryz.prog.cellsOf 33 = 7 := by kernel_rfl
 have c_int : Tryz.prog.cellsOf 3 = 1 := by kernel_rfl
 have c_int64 : Tryz.prog.cellsOf 2 = 1 := by kernel_rfl
 have c_string : Tryz.prog.cellsOf 9 = 1 := by kernel_rfl
 have c_sloc : Tryz.prog.cellsOf 30 = 1 := by kernel_rfl
 have c_su8 : Tryz.prog.cellsOf 31 = 1 := by kernel_rfl
 have c_sint : Tryz.prog.cellsOf 34 = 1 := by kernel_rfl
 have c_uint32 : Tryz.prog.cellsOf 35 = 1 := by kernel_rfl
 rcases DataW.trod_slice Tryz.underlying22 hf with ⟨hcs, _⟩ | ⟨ad, len, cap, elems, rest, k, _, hcs, hxd, _, hl, hmx, hlen, hel, _⟩
 ·simp [Value.cells] at hcs
  obtain ⟨rfl, rfl, rfl⟩ := hcs
  exact ⟨none, 0, 0, [], rfl, ⟨rfl, Nat.le_refl _, by omega, fun i hi => absurd hi (Nat.not_lt_zero i)⟩⟩
 ·simp [Value.cells] at hcs
  obtain ⟨rfl, rfl, rfl⟩ := hcs
  have hdd : d = .slice (elems.map (·.1)) (rest.map (·.1)) := by
   simp only [Prod.mk.injEq] at hxd
   exact hxd.1
  have wt : ∀ z ∈ d.weights Tryz.prog 22, z ≤ 140737488351232 := fun z hz => by
   have := List.all_eq_true.1 hsz _ (DataW.weights_mem_each hj hd _ hz)
   have h2 : z ≤ reachBytes := by simpa using this
   unfold reachBytes at h2
   omega
  have wtop : n ≤ 140737488351232 := by
   have := wt ((elems.length + rest.length) * 152) (by
    rw [hdd]
    simp only [DataW.weights, Tryz.underlying22]
    refine List.mem_cons.2 (.inl ?_)
    rw [show Tryz.prog.bytesOf 37 = 152 by kernel_rfl]
    simp only [List.length_map])
   omega
  have wts : ∀ (i : Nat) e, elems[i]? = some e → ∀ z ∈ e.1.weights Tryz.prog 37, z ≤ 140737488351232 := fun i e he z hz => wt z (by
   rw [hdd]
   simp only [DataW.weights, Tryz.underlying22]
   exact List.mem_cons_of_mem _ (List.mem_append_left _ (Zdy (List.mem_map.2 ⟨e, List.mem_of_getElem? he, rfl⟩) hz)))
  have each : ∀ i, i < n → ∃ q : O9 × P9, O9At W q.1 q.2 ∧ ∀ k, k < 12 → W.cell? ((ad.add (i * 12)).add k) = (o9V q.1 q.2)[k]? := by
   intro i hi
   have h1 := hel i hi
   have hei : elems[i]? = some elems[i] := List.getElem?_eq_getElem (by omega)
   have wti := wts i _ hei
   rw [ce, hei] at h1
   obtain ⟨cs', h2, h3⟩ := Option.bind_eq_some_iff.1 h1
   obtain ⟨_, hlen', hcell⟩ := World.cells?_some h2
   obtain ⟨ys, k', _, hxa, _, hyl, hf⟩ := DataW.trod_struct Tryz.underlying37 h3
   rw [hxa] at wti
   match ys, hyl, cs', hlen', wti with
   | [y0, y1, y2, y3, y4, y5], _, [v0, v1, v2, v3, v4, v5, v6, v7, v8, v9, v10, v11], _, wti =>
     have wti : ∀ z ∈ y0.1.weights Tryz.prog 3 ++ (y1.1.weights Tryz.prog 3 ++ (y2.1.weights Tryz.prog 33 ++ (y3.1.weights Tryz.prog 3 ++ (y4.1.weights Tryz.prog 34 ++ (y5.1.weights Tryz.prog 35 ++ []))))), z ≤ 140737488351232 := fun z hz => wti z (by
      simp only [DataW.weights, Tryz.underlying37, List.map_cons, List.map_nil, DataW.weightsEach]
      exact hz)
     have g0 : DataW.trod enc Tryz.prog W 0 (fun _ => true) true k' 3 [v0] = some y0 := by
      have h := hf 0 { name := "What", type := 3, offset := 0, embedded := false, tag := "", pkgPath := "", byteOffset := 0 } rfl
      dsimp only at h
      rw [c_int] at h
      exact h
     have g1 : DataW.trod enc Tryz.prog W 0 (fun _ => true) true k' 3 [v1] = some y1 := by
      have h := hf 1 { name := "N", type := 3, offset := 1, embedded := false, tag := "", pkgPath := "", byteOffset := 8 } rfl
      dsimp only at h
      rw [c_int] at h
      exact h
     have g2 : DataW.trod enc Tryz.prog W 0 (fun _ => true) true k' 33 [v2, v3, v4, v5, v6, v7, v8] = some y2 := by
      have h := hf 2 { name := "X", type := 33, offset := 2, embedded := false, tag := "", pkgPath := "", byteOffset := 16 } rfl
      dsimp only at h
      rw [c_rec] at h
      exact h
     have g3 : DataW.trod enc Tryz.prog W 0 (fun _ => true) true k' 3 [v9] = some y3 := by
      have h := hf 3 { name := "At", type := 3, offset := 9, embedded := false, tag := "", pkgPath := "", byteOffset := 112 } rfl
      dsimp only at h
      rw [c_int] at h
      exact h
     have g4 : DataW.trod enc Tryz.prog W 0 (fun _ => true) true k' 34 [v10] = some y4 := by
      have h := hf 4 { name := "Bytes", type := 34, offset := 10, embedded := false, tag := "", pkgPath := "", byteOffset := 120 } rfl
      dsimp only at h
      rw [c_sint] at h
      exact h
     have g5 : DataW.trod enc Tryz.prog W 0 (fun _ => true) true k' 35 [v11] = some y5 := by
      have h := hf 5 { name := "Bits", type := 35, offset := 11, embedded := false, tag := "", pkgPath := "", byteOffset := 144 } rfl
      dsimp only at h
      rw [c_uint32] at h
      exact h
     obtain ⟨ws, k2, _, hwa, _, hwl, hg⟩ := DataW.trod_struct Tryz.underlying33 g2
     match ws, hwl, hwa with
     | [u0, u1, u2, u3, u4, u5, u6], _, hwa =>
       have wtm : ∀ z ∈ u0.1.weights Tryz.prog 3 ++ (u1.1.weights Tryz.prog 9 ++ (u2.1.weights Tryz.prog 2 ++ (u3.1.weights Tryz.prog 3 ++ (u4.1.weights Tryz.prog 3 ++ (u5.1.weights Tryz.prog 30 ++ (u6.1.weights Tryz.prog 31 ++ [])))))), z ≤ 140737488351232 := fun z hz => wti z (List.mem_append_right _ (List.mem_append_right _ (List.mem_append_left _ (by
        rw [hwa]
        simp only [DataW.weights, Tryz.underlying33, List.map_cons, List.map_nil, DataW.weightsEach]
        exact hz))))
       have j0 : DataW.trod enc Tryz.prog W 0 (fun _ => true) true k2 3 [v2] = some u0 := by
        have h := hg 0 { name := "Kind", type := 3, offset := 0, embedded := false, tag := "", pkgPath := "", byteOffset := 0 } rfl
        dsimp only at h
        rw [c_int] at h
        exact h
       have j1 : DataW.trod enc Tryz.prog W 0 (fun _ => true) true k2 9 [v3] = some u1 := by
        have h := hg 1 { name := "Key", type := 9, offset := 1, embedded := false, tag := "", pkgPath := "", byteOffset := 8 } rfl
        dsimp only at h
        rw [c_string] at h
        exact h
       have j2 : DataW.trod enc Tryz.prog W 0 (fun _ => true) true k2 2 [v4] = some u2 := by
        have h := hg 2 { name := "Id", type := 2, offset := 2, embedded := false, tag := "", pkgPath := "", byteOffset := 24 } rfl
        dsimp only at h
        rw [c_int64] at h
        exact h
       have j3 : DataW.trod enc Tryz.prog W 0 (fun _ => true) true k2 3 [v5] = some u3 := by
        have h := hg 3 { name := "No", type := 3, offset := 3, embedded := false, tag := "", pkgPath := "", byteOffset := 32 } rfl
        dsimp only at h
        rw [c_int] at h
        exact h
       have j4 : DataW.trod enc Tryz.prog W 0 (fun _ => true) true k2 3 [v6] = some u4 := by
        have h := hg 4 { name := "Size", type := 3, offset := 4, embedded := false, tag := "", pkgPath := "", byteOffset := 40 } rfl
        dsimp only at h
        rw [c_int] at h
        exact h
       have j5 : DataW.trod enc Tryz.prog W 0 (fun _ => true) true k2 30 [v7] = some u5 := by
        have h := hg 5 { name := "Locs", type := 30, offset := 5, embedded := false, tag := "", pkgPath := "", byteOffset := 48 } rfl
        dsimp only at h
        rw [c_sloc] at h
        exact h
       have j6 : DataW.trod enc Tryz.prog W 0 (fun _ => true) true k2 31 [v8] = some u6 := by
        have h := hg 6 { name := "B", type := 31, offset := 6, embedded := false, tag := "", pkgPath := "", byteOffset := 72 } rfl
        dsimp only at h
        rw [c_su8] at h
        exact h
       obtain ⟨z0, e0, _, b0⟩ := DataW.trod_int Tryz.underlying3 g0
       obtain ⟨z1, e1, _, b1⟩ := DataW.trod_int Tryz.underlying3 g1
       obtain ⟨z2, e2, _⟩ := DataW.trod_int Tryz.underlying3 j0
       obtain ⟨z3, e3, hw3, _⟩ := DataW.trod_string Tryz.underlying9 j1
       obtain ⟨z4, e4, _⟩ := DataW.trod_int Tryz.underlying2 j2
       obtain ⟨z5, e5, _⟩ := DataW.trod_int Tryz.underlying3 j3
       obtain ⟨z6, e6, _⟩ := DataW.trod_int Tryz.underlying3 j4
       obtain ⟨LA, ln, lc, ls, e7, hL⟩ := Zog j5
       have hLw := Zjb j5 e7
       obtain ⟨BA, bn, bc, bs, e8, hB, hBw⟩ := Zqg j6
       obtain ⟨z9, e9, _, b9⟩ := DataW.trod_int Tryz.underlying3 g3
       obtain ⟨IA, im, ic, is, e10, hI, hIw, hIb⟩ := Zqf g4
       obtain ⟨z11, e11, _, b11⟩ := DataW.trod_int Tryz.underlying35 g5
       have c0 := hcell 0 (by omega)
       have c1 := hcell 1 (by omega)
       have c2 := hcell 2 (by omega)
       have c3 := hcell 3 (by omega)
       have c4 := hcell 4 (by omega)
       have c5 := hcell 5 (by omega)
       have c6 := hcell 6 (by omega)
       have c7 := hcell 7 (by omega)
       have c8 := hcell 8 (by omega)
       have c9 := hcell 9 (by omega)
       have c10 := hcell 10 (by omega)
       have c11 := hcell 11 (by omega)
       simp at c0 c1 c2 c3 c4 c5 c6 c7 c8 c9 c10 c11 e0 e1 e2 e3 e4 e5 e6 e9 e11
       subst e0 e1 e2 e3 e4 e5 e6 e7 e8 e9 e10 e11
       refine ⟨(⟨z0, z1, ⟨z2, z3.data.toList, z4, z5, z6, ls, bs⟩, z9, is, z11⟩, ⟨LA, ln, lc, BA, bn, bc, IA, im, ic⟩), ⟨bounds_i64 b0, bounds_i64 b1, ⟨hL, hB⟩, bounds_i64 b9, hI, hIb, bounds_u32 b11, ⟨?_, ?_, ?_, ?_⟩⟩, fun k hk => ?_⟩
       ·show z3.data.toList.length ≤ _
        refine wtm _ (List.mem_append_right _ (List.mem_append_left _ ?_))
        rw [hw3]
        simp only [DataW.weights, List.mem_singleton]
       ·have hlen := hL.len
        show ls.length ≤ _
        rcases hLw with h | ⟨q, hq, h⟩
        ·omega
        ·have := wtm _ (List.mem_append_right _ (List.mem_append_right _ (List.mem_append_right _ (List.mem_append_right _ (List.mem_append_right _ (List.mem_append_left _ h))))))
         omega
       ·have hlen := hB.len
        have hcap := hB.cap
        show bs.length ≤ _
        rcases hBw with h | h
        ·omega
        ·have := wtm _ (List.mem_append_right _ (List.mem_append_right _ (List.mem_append_right _ (List.mem_append_right _ (List.mem_append_right _ (List.mem_append_right _ (List.mem_append_left _ h)))))))
         omega
       ·have hlen := hI.len
        have hcap := hI.cap
        show is.length ≤ _
        rcases hIw with h | h
        ·omega
        ·have := wti _ (List.mem_append_right _ (List.mem_append_right _ (List.mem_append_right _ (List.mem_append_right _ (List.mem_append_left _ h)))))
         omega
       ·match k, hk with
        | 0, _ => exact c0
        | 1, _ => exact c1
        | 2, _ => exact c2
        | 3, _ => exact c3
        | 4, _ => exact c4
        | 5, _ => exact c5
        | 6, _ => exact c6
        | 7, _ => exact c7
        | 8, _ => exact c8
        | 9, _ => exact c9
        | 10, _ => exact c10
        | 11, _ => exact c11
  obtain ⟨f, hf⟩ := Go.Deep.choose_lt each
  refine ⟨some ad, n, c, (List.range n).map fun i => (f i).1, rfl, ⟨by simp, hl, wtop, fun i hi => ?_⟩⟩
  obtain ⟨h1, h2⟩ := hf i hi
  refine ⟨ad, (f i).1, (f i).2, rfl, ?_, by rw [List.getElem?_map, List.getElem?_range hi]; rfl, h1, h2⟩
  have := World.block_lt_of_cell? W _ (h2 0 (by omega) : _ = some (Value.int .i64 (f i).1.what))
  rwa [Z4, Z4] at this
end
end Go.Proofs.YtlldcogkcjnejaaGreat
