/-
  Hints that came in; what was found that came in.
-/
import Derived.Test.YtdjlhdeejpndcaaHtMem
import Derived.Test.YtdjlhdeejpndcaaMD
import Derived.Test.YtdjlhdeejpndcaaSeat
import Derived.SliceStrings
import Derived.Deep.SlicePairs
import Derived.Deep.Draws
import Derived.SizedLaws
import Derived.ChangeMaps5
namespace Go.Proofs.Ytdjlhdeejpndcaa
open Go.ChangeMaps Go.ChangeShapes Go.WideShapes Go.ChangeAt Go.RowKit
set_option linter.unusedVariables false

instance : Inhabited Fd := ⟨⟨0, 0, 0, [], 0, 0, 0, (none, 0, 0), (none, 0, 0)⟩⟩
theorem bytes_hint : Try.prog.bytesOf 35 = 40 := by kernel_rfl
theorem bytes_found : Try.prog.bytesOf 43 = 112 := by kernel_rfl
section
variable {H : Type} {enc : TypeId × Value → H} {W : World} {base : Nat} {r : Reach}
theorem rs_of {α : Type} [Inhabited α] {e : α → List Value} {k : Nat} (hk : ∀ a, (e a).length = k) {ad : Addr} {n c : Nat} (hc : n ≤ c) (f : Nat → α) (h : ∀ i, i < n → ∀ j, j < k → W.cell? ((ad.add (i * k)).add j) = (e (f i))[j]?) :
    Rs W (some ad) n c e k ((List.range n).map f) := by
  refine ⟨by simp, hc, (fun h => by cases h), ?_, ?_⟩
  · rw [flat_length hk]
    simp [Nat.mul_comm]
  · intro j v hj
    have hjl : j < (((List.range n).map f).flatMap e).length := (List.getElem?_eq_some_iff.1 hj).1
    rw [flat_length hk] at hjl
    simp only [List.length_map, List.length_range] at hjl
    have hk0 : 0 < k := by
      rcases Nat.eq_zero_or_pos k with h0 | h0
      · subst h0; omega
      · exact h0
    have hq : j / k < n := Nat.div_lt_of_lt_mul (by rw [Nat.mul_comm]; exact hjl)
    have hm : j % k < k := Nat.mod_lt _ hk0
    have hdm : j / k * k + j % k = j := by rw [Nat.mul_comm]; exact Nat.div_add_mod j k
    have h1 := flat_get hk ((List.range n).map f) (j / k) (j % k) (f (j / k)) (by rw [List.getElem?_map, List.getElem?_range hq]; rfl) hm
    rw [hdm, hj] at h1
    have h2 := h (j / k) hq (j % k) hm
    rw [← h1, add_twice, hdm] at h2
    exact ⟨ad, rfl, by have := World.block_lt_of_cell? W _ h2; rwa [add_block] at this, h2⟩
theorem slice_of {m : Nat} {a : Value} {t e : TypeId} {x : DataW H × List MemPlace} (ht : Try.prog.underlying t = some (.slice e)) (h : DataW.trod enc Try.prog W 0 (fun _ => true) true m t [a] = some x) : ∃ A n c, a = .slice A n c := by
  rcases DataW.trod_slice ht h with ⟨hcs, _⟩ | ⟨ad, len, cap, elems, rest, k, _, hcs, _⟩
  · exact ⟨none, 0, 0, by simpa using hcs⟩
  · exact ⟨some ad, len, cap, by simpa using hcs⟩
set_option maxRecDepth 100000 in
theorem open_hints0 {v : Value} {d : DataW H} {p : List MemPlace} (hv : Value.okWide Try.prog W r base 22 v) (h : DataW.Trod enc Try.prog W 0 (fun _ => true) true 22 v d p) :
    ∃ A n c l, v = .slice A n c ∧ Rs W A n c htE 4 l ∧ (n = 0 ∨ ∃ elems spare, d = .slice elems spare ∧ n ≤ elems.length) := by
  obtain ⟨A, n, c, rfl⟩ := okWide_slice Try.underlying22 hv
  obtain ⟨fuel, hf⟩ := h
  have ce : Try.prog.cellsOf 35 = 4 := by kernel_rfl
  have c_int : Try.prog.cellsOf 3 = 1 := by kernel_rfl
  have c_string : Try.prog.cellsOf 9 = 1 := by kernel_rfl
  rcases DataW.trod_slice Try.underlying22 hf with ⟨hcs, _⟩ | ⟨ad, len, cap, elems, rest, k, _, hcs, hxd, _, hl, hmx, hlen, hel, _⟩
  · simp [Value.cells] at hcs
    obtain ⟨rfl, rfl, rfl⟩ := hcs
    exact ⟨none, 0, 0, [], rfl, Rs.nil _, .inl rfl⟩
  · simp [Value.cells] at hcs
    obtain ⟨rfl, rfl, rfl⟩ := hcs
    have each : ∀ i, i < n → ∃ q : Ht, ∀ k, k < 4 → W.cell? ((ad.add (i * 4)).add k) = (htE q)[k]? := by
      intro i hi
      have h1 := hel i hi
      have hei : elems[i]? = some elems[i] := List.getElem?_eq_getElem (by omega)
      rw [ce, hei] at h1
      obtain ⟨cs', h2, h3⟩ := Option.bind_eq_some_iff.1 h1
      obtain ⟨_, hlen', hcell⟩ := World.cells?_some h2
      obtain ⟨ys, k', _, hxa, _, hyl, hf⟩ := DataW.trod_struct Try.underlying35 h3
      match ys, hyl, cs', hlen' with
      | [y0, y1, y2, y3], _, [v0, v1, v2, v3], _ =>
        have g0 : DataW.trod enc Try.prog W 0 (fun _ => true) true k' 3 [v0] = some y0 := by
          have h := hf 0 { name := "Kind", type := 3, offset := 0, embedded := false, tag := "", pkgPath := "", byteOffset := 0 } rfl
          dsimp only at h
          rw [c_int] at h
          exact h
        have g1 : DataW.trod enc Try.prog W 0 (fun _ => true) true k' 9 [v1] = some y1 := by
          have h := hf 1 { name := "Key", type := 9, offset := 1, embedded := false, tag := "", pkgPath := "", byteOffset := 8 } rfl
          dsimp only at h
          rw [c_string] at h
          exact h
        have g2 : DataW.trod enc Try.prog W 0 (fun _ => true) true k' 3 [v2] = some y2 := by
          have h := hf 2 { name := "At", type := 3, offset := 2, embedded := false, tag := "", pkgPath := "", byteOffset := 24 } rfl
          dsimp only at h
          rw [c_int] at h
          exact h
        have g3 : DataW.trod enc Try.prog W 0 (fun _ => true) true k' 3 [v3] = some y3 := by
          have h := hf 3 { name := "Size", type := 3, offset := 3, embedded := false, tag := "", pkgPath := "", byteOffset := 32 } rfl
          dsimp only at h
          rw [c_int] at h
          exact h
        obtain ⟨z0, e0, _⟩ := DataW.trod_int Try.underlying3 g0
        obtain ⟨z1, e1, _⟩ := DataW.trod_string Try.underlying9 g1
        obtain ⟨z2, e2, _⟩ := DataW.trod_int Try.underlying3 g2
        obtain ⟨z3, e3, _⟩ := DataW.trod_int Try.underlying3 g3
        have c0 := hcell 0 (by omega)
        have c1 := hcell 1 (by omega)
        have c2 := hcell 2 (by omega)
        have c3 := hcell 3 (by omega)
        simp at c0 c1 c2 c3 e0 e1 e2 e3
        subst e0 e1 e2 e3
        refine ⟨⟨z0, z1.data.toList, z2, z3⟩, fun k hk => ?_⟩
        match k, hk with
        | 0, _ => exact c0
        | 1, _ => exact c1
        | 2, _ => exact c2
        | 3, _ => exact c3
    obtain ⟨f, hf⟩ := Go.Deep.choose_lt each
    refine ⟨some ad, n, c, (List.range n).map f, rfl, rs_of (e := htE) (k := 4) (fun _ => rfl) hl f hf, ?_⟩
    simp only [Prod.mk.injEq] at hxd
    exact .inr ⟨_, _, hxd.1, by rw [List.length_map]; omega⟩
set_option maxRecDepth 100000 in
theorem open_hints {v : Value} {d : DataW H} {p : List MemPlace} (hv : Value.okWide Try.prog W r base 22 v) (h : DataW.Trod enc Try.prog W 0 (fun _ => true) true 22 v d p) {tys : List TypeId} {ds : List (DataW H)}
    (hsz : (DataW.weightsEach Try.prog tys ds).all (· ≤ reachBytes) = true) {j : Nat} (hj : tys[j]? = some 22) (hd : ds[j]? = some d) :
    ∃ A n c l, v = .slice A n c ∧ Rs W A n c htE 4 l ∧ n ≤ 4000000000000 := by
  obtain ⟨A, n, c, l, h1, h2, h3⟩ := open_hints0 hv h
  refine ⟨A, n, c, l, h1, h2, ?_⟩
  rcases h3 with h3 | ⟨elems, spare, h3, h4⟩
  · omega
  · have hs := sized_slice hsz hj (hd.trans (by rw [h3])) Try.underlying22
    rw [bytes_hint] at hs
    simp only [reachBytes] at hs
    omega
set_option maxRecDepth 100000 in
theorem open_founds0 {v : Value} {d : DataW H} {p : List MemPlace} (hv : Value.okWide Try.prog W r base 31 v) (h : DataW.Trod enc Try.prog W 0 (fun _ => true) true 31 v d p) :
    ∃ A n c l, v = .slice A n c ∧ Rs W A n c fdE 9 l ∧ (n = 0 ∨ ∃ elems spare, d = .slice elems spare ∧ n ≤ elems.length) := by
  obtain ⟨A, n, c, rfl⟩ := okWide_slice Try.underlying31 hv
  obtain ⟨fuel, hf⟩ := h
  have ce : Try.prog.cellsOf 43 = 9 := by kernel_rfl
  have c_int : Try.prog.cellsOf 3 = 1 := by kernel_rfl
  have c_string : Try.prog.cellsOf 9 = 1 := by kernel_rfl
  have c_int64 : Try.prog.cellsOf 2 = 1 := by kernel_rfl
  have c_locs : Try.prog.cellsOf 39 = 1 := by kernel_rfl
  have c_bytes : Try.prog.cellsOf 23 = 1 := by kernel_rfl
  rcases DataW.trod_slice Try.underlying31 hf with ⟨hcs, _⟩ | ⟨ad, len, cap, elems, rest, k, _, hcs, hxd, _, hl, hmx, hlen, hel, _⟩
  · simp [Value.cells] at hcs
    obtain ⟨rfl, rfl, rfl⟩ := hcs
    exact ⟨none, 0, 0, [], rfl, Rs.nil _, .inl rfl⟩
  · simp [Value.cells] at hcs
    obtain ⟨rfl, rfl, rfl⟩ := hcs
    have each : ∀ i, i < n → ∃ q : Fd, ∀ k, k < 9 → W.cell? ((ad.add (i * 9)).add k) = (fdE q)[k]? := by
      intro i hi
      have h1 := hel i hi
      have hei : elems[i]? = some elems[i] := List.getElem?_eq_getElem (by omega)
      rw [ce, hei] at h1
      obtain ⟨cs', h2, h3⟩ := Option.bind_eq_some_iff.1 h1
      obtain ⟨_, hlen', hcell⟩ := World.cells?_some h2
      obtain ⟨ys, k', _, hxa, _, hyl, hf⟩ := DataW.trod_struct Try.underlying43 h3
      match ys, hyl, cs', hlen' with
      | [y0, y1, y2], _, [v0, v1, u0, u1, u2, u3, u4, u5, u6], _ =>
        have ce7 : Try.prog.cellsOf 41 = 7 := by kernel_rfl
        have g0 : DataW.trod enc Try.prog W 0 (fun _ => true) true k' 3 [v0] = some y0 := by
          have h := hf 0 { name := "At", type := 3, offset := 0, embedded := false, tag := "", pkgPath := "", byteOffset := 0 } rfl
          dsimp only at h
          rw [c_int] at h
          exact h
        have g1 : DataW.trod enc Try.prog W 0 (fun _ => true) true k' 3 [v1] = some y1 := by
          have h := hf 1 { name := "Size", type := 3, offset := 1, embedded := false, tag := "", pkgPath := "", byteOffset := 8 } rfl
          dsimp only at h
          rw [c_int] at h
          exact h
        have g2 : DataW.trod enc Try.prog W 0 (fun _ => true) true k' 41 [u0, u1, u2, u3, u4, u5, u6] = some y2 := by
          have h := hf 2 { name := "R", type := 41, offset := 2, embedded := false, tag := "", pkgPath := "", byteOffset := 16 } rfl
          dsimp only at h
          rw [ce7] at h
          exact h
        obtain ⟨xs, k2, _, _, _, hxl, hfr⟩ := DataW.trod_struct Try.underlying41 g2
        match xs, hxl with
        | [x0, x1, x2, x3, x4, x5, x6], _ =>
          have b0 : DataW.trod enc Try.prog W 0 (fun _ => true) true k2 3 [u0] = some x0 := by
            have h := hfr 0 { name := "Kind", type := 3, offset := 0, embedded := false, tag := "", pkgPath := "", byteOffset := 0 } rfl
            dsimp only at h
            rw [c_int] at h
            exact h
          have b1 : DataW.trod enc Try.prog W 0 (fun _ => true) true k2 9 [u1] = some x1 := by
            have h := hfr 1 { name := "Key", type := 9, offset := 1, embedded := false, tag := "", pkgPath := "", byteOffset := 8 } rfl
            dsimp only at h
            rw [c_string] at h
            exact h
          have b2 : DataW.trod enc Try.prog W 0 (fun _ => true) true k2 2 [u2] = some x2 := by
            have h := hfr 2 { name := "Id", type := 2, offset := 2, embedded := false, tag := "", pkgPath := "", byteOffset := 24 } rfl
            dsimp only at h
            rw [c_int64] at h
            exact h
          have b3 : DataW.trod enc Try.prog W 0 (fun _ => true) true k2 3 [u3] = some x3 := by
            have h := hfr 3 { name := "No", type := 3, offset := 3, embedded := false, tag := "", pkgPath := "", byteOffset := 32 } rfl
            dsimp only at h
            rw [c_int] at h
            exact h
          have b4 : DataW.trod enc Try.prog W 0 (fun _ => true) true k2 3 [u4] = some x4 := by
            have h := hfr 4 { name := "Size", type := 3, offset := 4, embedded := false, tag := "", pkgPath := "", byteOffset := 40 } rfl
            dsimp only at h
            rw [c_int] at h
            exact h
          have b5 : DataW.trod enc Try.prog W 0 (fun _ => true) true k2 39 [u5] = some x5 := by
            have h := hfr 5 { name := "Locs", type := 39, offset := 5, embedded := false, tag := "", pkgPath := "", byteOffset := 48 } rfl
            dsimp only at h
            rw [c_locs] at h
            exact h
          have b6 : DataW.trod enc Try.prog W 0 (fun _ => true) true k2 23 [u6] = some x6 := by
            have h := hfr 6 { name := "B", type := 23, offset := 6, embedded := false, tag := "", pkgPath := "", byteOffset := 72 } rfl
            dsimp only at h
            rw [c_bytes] at h
            exact h
          obtain ⟨w0, e0, _⟩ := DataW.trod_int Try.underlying3 g0
          obtain ⟨w1, e1, _⟩ := DataW.trod_int Try.underlying3 g1
          obtain ⟨z0, q0, _⟩ := DataW.trod_int Try.underlying3 b0
          obtain ⟨z1, q1, _⟩ := DataW.trod_string Try.underlying9 b1
          obtain ⟨z2, q2, _⟩ := DataW.trod_int Try.underlying2 b2
          obtain ⟨z3, q3, _⟩ := DataW.trod_int Try.underlying3 b3
          obtain ⟨z4, q4, _⟩ := DataW.trod_int Try.underlying3 b4
          obtain ⟨LA, ln, lc, q5⟩ := slice_of Try.underlying39 b5
          obtain ⟨BA, bn, bc, q6⟩ := slice_of Try.underlying23 b6
          have c0 := hcell 0 (by omega)
          have c1 := hcell 1 (by omega)
          have c2 := hcell 2 (by omega)
          have c3 := hcell 3 (by omega)
          have c4 := hcell 4 (by omega)
          have c5 := hcell 5 (by omega)
          have c6 := hcell 6 (by omega)
          have c7 := hcell 7 (by omega)
          have c8 := hcell 8 (by omega)
          simp at c0 c1 c2 c3 c4 c5 c6 c7 c8 e0 e1 q0 q1 q2 q3 q4
          subst e0 e1 q0 q1 q2 q3 q4 q5 q6
          refine ⟨⟨w0, w1, z0, z1.data.toList, z2, z3, z4, (LA, ln, lc), (BA, bn, bc)⟩, fun k hk => ?_⟩
          match k, hk with
          | 0, _ => exact c0
          | 1, _ => exact c1
          | 2, _ => exact c2
          | 3, _ => exact c3
          | 4, _ => exact c4
          | 5, _ => exact c5
          | 6, _ => exact c6
          | 7, _ => exact c7
          | 8, _ => exact c8
    obtain ⟨f, hf⟩ := Go.Deep.choose_lt each
    refine ⟨some ad, n, c, (List.range n).map f, rfl, rs_of (e := fdE) (k := 9) (fun _ => rfl) hl f hf, ?_⟩
    simp only [Prod.mk.injEq] at hxd
    exact .inr ⟨_, _, hxd.1, by rw [List.length_map]; omega⟩
set_option maxRecDepth 100000 in
theorem open_founds {v : Value} {d : DataW H} {p : List MemPlace} (hv : Value.okWide Try.prog W r base 31 v) (h : DataW.Trod enc Try.prog W 0 (fun _ => true) true 31 v d p) {tys : List TypeId} {ds : List (DataW H)}
    (hsz : (DataW.weightsEach Try.prog tys ds).all (· ≤ reachBytes) = true) {j : Nat} (hj : tys[j]? = some 31) (hd : ds[j]? = some d) :
    ∃ A n c l, v = .slice A n c ∧ Rs W A n c fdE 9 l ∧ n ≤ 4000000000000 := by
  obtain ⟨A, n, c, l, h1, h2, h3⟩ := open_founds0 hv h
  refine ⟨A, n, c, l, h1, h2, ?_⟩
  rcases h3 with h3 | ⟨elems, spare, h3, h4⟩
  · omega
  · have hs := sized_slice hsz hj (hd.trans (by rw [h3])) Try.underlying31
    rw [bytes_found] at hs
    simp only [reachBytes] at hs
    omega
end
end Go.Proofs.Ytdjlhdeejpndcaa

