/-
  Hints, lists of hints, and numbers that came in.
-/
import Derived.Test.YtnnkioekjobbmaaFdLls
import Derived.Test.YtnnkioekjobbmaaFdPl
import Derived.Test.YtnnkioekjobbmaaRowsIn2
import Derived.Test.YtnnkioekjobbmaaSeat
import Derived.SliceStrings
import Derived.Deep.SlicePairs
import Derived.Deep.Draws
import Derived.SizedLaws
import Derived.ChangeMaps5
namespace Go.Proofs.Ytnnkioekjobbmaa
open Go.ChangeMaps Go.ChangeShapes Go.WideShapes Go.ChangeAt Go.RowKit
set_option linter.unusedVariables false

theorem bytes_htF : Try.prog.bytesOf 33 = 40 := by kernel_rfl
theorem bytes_llF : Try.prog.bytesOf 36 = 24 := by kernel_rfl
section
variable {H : Type} {enc : TypeId × Value → H} {W : World} {base : Nat} {r : Reach}
theorem rs_ofF {α : Type} [Inhabited α] {e : α → List Value} {k : Nat} (hk : ∀ a, (e a).length = k) {ad : Addr} {n c : Nat} (hc : n ≤ c) (f : Nat → α) (h : ∀ i, i < n → ∀ j, j < k → W.cell? ((ad.add (i * k)).add j) = (e (f i))[j]?) :
    Rs W (some ad) n c e k ((List.range n).map f) := by
  refine ⟨by simp, hc, (fun h => by cases h), ?_, ?_⟩
  · rw [flat_length hk]
    simp [Nat.mul_comm]
  · intro j v hj
    have hjl : j < (((List.range n).map f).flatMap e).length := (List.getElem?_eq_some_iff.1 hj).1
    rw [flat_length hk] at hjl
    simp only [List.length_map, List.length_range] at hjl
    have hk0 : 0 < k := by
      rcases Nat.eq_zero_or_pos k with h0 | h0
      · subst h0; omega
      · exact h0
    have hq : j / k < n := Nat.div_lt_of_lt_mul (by rw [Nat.mul_comm]; exact hjl)
    have hm : j % k < k := Nat.mod_lt _ hk0
    have hdm : j / k * k + j % k = j := by rw [Nat.mul_comm]; exact Nat.div_add_mod j k
    have h1 := flat_get hk ((List.range n).map f) (j / k) (j % k) (f (j / k)) (by rw [List.getElem?_map, List.getElem?_range hq]; rfl) hm
    rw [hdm, hj] at h1
    have h2 := h (j / k) hq (j % k) hm
    rw [← h1, add_twice, hdm] at h2
    exact ⟨ad, rfl, by have := World.block_lt_of_cell? W _ h2; rwa [add_block] at this, h2⟩
set_option maxRecDepth 100000 in
theorem hints_trod {v : Value} {x : DataW H × List MemPlace} {m : Nat} (hf : DataW.trod enc Try.prog W 0 (fun _ => true) true m 36 [v] = some x) :
    ∃ A n c l, v = .slice A n c ∧ Hts W A n c l ∧ (n = 0 ∨ ∃ elems spare, x.1 = .slice elems spare ∧ n ≤ elems.length) := by
  have ce : Try.prog.cellsOf 33 = 4 := by kernel_rfl
  have c_int : Try.prog.cellsOf 3 = 1 := by kernel_rfl
  have c_string : Try.prog.cellsOf 9 = 1 := by kernel_rfl
  rcases DataW.trod_slice Try.underlying36 hf with ⟨hcs, _⟩ | ⟨ad, n, c, elems, rest, k, _, hcs, hxd, _, hl, hmx, hlen, hel, _⟩
  · injection hcs with hcs _
    subst hcs
    exact ⟨none, 0, 0, [], rfl, Rs.nil _, .inl rfl⟩
  · injection hcs with hcs _
    subst hcs
    have each : ∀ i, i < n → ∃ q : Ht, ∀ k, k < 4 → W.cell? ((ad.add (i * 4)).add k) = (htE q)[k]? := by
      intro i hi
      have h1 := hel i hi
      have hei : elems[i]? = some elems[i] := List.getElem?_eq_getElem (by omega)
      rw [ce, hei] at h1
      obtain ⟨cs', h2, h3⟩ := Option.bind_eq_some_iff.1 h1
      obtain ⟨_, hlen', hcell⟩ := World.cells?_some h2
      obtain ⟨ys, k', _, hxa, _, hyl, hf⟩ := DataW.trod_struct Try.underlying33 h3
      match ys, hyl, cs', hlen' with
      | [y0, y1, y2, y3], _, [v0, v1, v2, v3], _ =>
        have g0 : DataW.trod enc Try.prog W 0 (fun _ => true) true k' 3 [v0] = some y0 := by
          have h := hf 0 { name := "Kind", type := 3, offset := 0, embedded := false, tag := "", pkgPath := "", byteOffset := 0 } rfl
          dsimp only at h
          rw [c_int] at h
          exact h
        have g1 : DataW.trod enc Try.prog W 0 (fun _ => true) true k' 9 [v1] = some y1 := by
          have h := hf 1 { name := "Key", type := 9, offset := 1, embedded := false, tag := "", pkgPath := "", byteOffset := 8 } rfl
          dsimp only at h
          rw [c_string] at h
          exact h
        have g2 : DataW.trod enc Try.prog W 0 (fun _ => true) true k' 3 [v2] = some y2 := by
          have h := hf 2 { name := "At", type := 3, offset := 2, embedded := false, tag := "", pkgPath := "", byteOffset := 24 } rfl
          dsimp only at h
          rw [c_int] at h
          exact h
        have g3 : DataW.trod enc Try.prog W 0 (fun _ => true) true k' 3 [v3] = some y3 := by
          have h := hf 3 { name := "Size", type := 3, offset := 3, embedded := false, tag := "", pkgPath := "", byteOffset := 32 } rfl
          dsimp only at h
          rw [c_int] at h
          exact h
        obtain ⟨z0, e0, _⟩ := DataW.trod_int Try.underlying3 g0
        obtain ⟨z1, e1, _⟩ := DataW.trod_string Try.underlying9 g1
        obtain ⟨z2, e2, _⟩ := DataW.trod_int Try.underlying3 g2
        obtain ⟨z3, e3, _⟩ := DataW.trod_int Try.underlying3 g3
        have c0 := hcell 0 (by omega)
        have c1 := hcell 1 (by omega)
        have c2 := hcell 2 (by omega)
        have c3 := hcell 3 (by omega)
        simp at c0 c1 c2 c3 e0 e1 e2 e3
        subst e0 e1 e2 e3
        refine ⟨⟨z0, z1.data.toList, z2, z3⟩, fun k hk => ?_⟩
        match k, hk with
        | 0, _ => exact c0
        | 1, _ => exact c1
        | 2, _ => exact c2
        | 3, _ => exact c3
    obtain ⟨f, hf⟩ := Go.Deep.choose_lt each
    refine ⟨some ad, n, c, (List.range n).map f, rfl, rs_ofF (e := htE) (k := 4) (fun _ => rfl) hl f hf, ?_⟩
    exact .inr ⟨elems.map (·.1), rest.map (·.1), by rw [hxd], by rw [List.length_map]; omega⟩
theorem open_htsF {v : Value} {d : DataW H} {p : List MemPlace} (hv : Value.okWide Try.prog W r base 36 v) (h : DataW.Trod enc Try.prog W 0 (fun _ => true) true 36 v d p) {tys : List TypeId} {ds : List (DataW H)}
    (hsz : (DataW.weightsEach Try.prog tys ds).all (· ≤ reachBytes) = true) {j : Nat} (hj : tys[j]? = some 36) (hd : ds[j]? = some d) :
    ∃ A n c l, v = .slice A n c ∧ Hts W A n c l ∧ n ≤ 4000000000000 := by
  obtain ⟨A, n, c, rfl⟩ := okWide_slice Try.underlying36 hv
  obtain ⟨fuel, hf⟩ := h
  rw [show (Value.slice A n c).cells.toList = [.slice A n c] from rfl] at hf
  obtain ⟨A', n', c', l, e, h2, h3⟩ := hints_trod hf
  injection e with e1 e2 e3
  subst e1 e2 e3
  refine ⟨A, n, c, l, rfl, h2, ?_⟩
  rcases h3 with h3 | ⟨elems, spare, h3, h4⟩
  · omega
  · have hs := sized_slice hsz hj (hd.trans (by rw [show d = _ from h3])) Try.underlying36
    rw [bytes_htF] at hs
    simp only [reachBytes] at hs
    omega
set_option maxRecDepth 100000 in
theorem open_llsF {v : Value} {d : DataW H} {p : List MemPlace} (hv : Value.okWide Try.prog W r base 23 v) (h : DataW.Trod enc Try.prog W 0 (fun _ => true) true 23 v d p) {tys : List TypeId} {ds : List (DataW H)}
    (hsz : (DataW.weightsEach Try.prog tys ds).all (· ≤ reachBytes) = true) {j : Nat} (hj : tys[j]? = some 23) (hd : ds[j]? = some d) :
    ∃ A n c sl ls, v = .slice A n c ∧ Lls W A n c sl ls ∧ n ≤ 6000000000000 ∧ ∀ l ∈ ls, l.length ≤ 4000000000000 := by
  obtain ⟨A, n, c, rfl⟩ := okWide_slice Try.underlying23 hv
  obtain ⟨fuel, hf⟩ := h
  rw [show (Value.slice A n c).cells.toList = [.slice A n c] from rfl] at hf
  have ce : Try.prog.cellsOf 36 = 1 := by kernel_rfl
  rcases DataW.trod_slice Try.underlying23 hf with ⟨hcs, _⟩ | ⟨ad, len, cap, elems, rest, k, _, hcs, hxd, _, hl, hmx, hlen, hel, _⟩
  · injection hcs with hcs _
    injection hcs with e1 e2 e3
    subst e1 e2 e3
    exact ⟨none, 0, 0, [], [], rfl, ⟨Rs.nil _, rfl, fun i s l h => by simp at h⟩, by omega, fun l hl => by cases hl⟩
  · injection hcs with hcs _
    injection hcs with e1 e2 e3
    subst e1 e2 e3
    have hde : d = .slice (elems.map (·.1)) (rest.map (·.1)) := (Prod.mk.inj hxd).1
    have each : ∀ i, i < n → ∃ q : Sl3 × List Ht, W.cell? (ad.add i) = some (fslV q.1) ∧ Hts W q.1.1 q.1.2.1 q.1.2.2 q.2 ∧ q.2.length ≤ 4000000000000 := by
      intro i hi
      have h1 := hel i hi
      have hil : i < elems.length := by omega
      have hei : elems[i]? = some elems[i] := List.getElem?_eq_getElem hil
      rw [ce, hei, Nat.mul_one] at h1
      obtain ⟨cs', h2, h3⟩ := Option.bind_eq_some_iff.1 h1
      obtain ⟨_, hlen', hcell⟩ := World.cells?_some h2
      match cs', hlen' with
      | [v0], _ =>
        have c0 := hcell 0 (by omega)
        rw [fadd0] at c0
        simp at c0
        obtain ⟨B, k2, q2, l, rfl, hl2, hb2⟩ := hints_trod h3
        refine ⟨((B, k2, q2), l), c0, hl2, ?_⟩
        dsimp only
        rw [hl2.len]
        rcases hb2 with hb2 | ⟨es, sp, hb2, hb3⟩
        · omega
        · have hm : (es.length + sp.length) * Try.prog.bytesOf 33 ∈ DataW.weightsEach Try.prog tys ds := by
            refine DataW.weights_mem_each hj (hd.trans (by rw [hde])) _ ?_
            simp only [DataW.weights, Try.underlying23]
            refine List.mem_cons_of_mem _ (List.mem_append_left _ (weights_all (d := elems[i].1) (List.mem_map.2 ⟨elems[i], List.getElem_mem _, rfl⟩) ?_))
            rw [hb2]
            simp only [DataW.weights, Try.underlying36]
            exact List.mem_cons_self
          have h4 := List.all_eq_true.1 hsz _ hm
          rw [bytes_htF] at h4
          have h5 : (es.length + sp.length) * 40 ≤ reachBytes := by simpa using h4
          unfold reachBytes at h5
          omega
    obtain ⟨f, hf⟩ := Go.Deep.choose_lt each
    refine ⟨some ad, n, c, (List.range n).map fun i => (f i).1, (List.range n).map fun i => (f i).2, rfl, ⟨rs_ofF (e := fslE) (k := 1) (fun _ => rfl) hl (fun i => (f i).1) fun i hi j hj => ?_, by simp, fun i s l hs hl2 => ?_⟩, ?_, fun l hl2 => ?_⟩
    · obtain rfl : j = 0 := by omega
      rw [Nat.mul_one, fadd0, (hf i hi).1]
      rfl
    · have hin : i < n := by
        have := (List.getElem?_eq_some_iff.1 hs).1
        simpa using this
      rw [List.getElem?_map, List.getElem?_range hin] at hs hl2
      simp at hs hl2
      subst hs hl2
      exact (hf i hin).2.1
    · have hs := sized_slice hsz hj (hd.trans (by rw [hde])) Try.underlying23
      rw [bytes_llF] at hs
      simp only [List.length_map, reachBytes] at hs
      omega
    · obtain ⟨i, hi, rfl⟩ := List.mem_map.1 hl2
      exact (hf i (List.mem_range.1 hi)).2.2
set_option maxRecDepth 100000 in
theorem open_insF {v : Value} {d : DataW H} {p : List MemPlace} (hv : Value.okWide Try.prog W r base 22 v) (h : DataW.Trod enc Try.prog W 0 (fun _ => true) true 22 v d p) :
    ∃ A n c l, v = .slice A n c ∧ Ins W A n c l := by
  obtain ⟨A, n, c, rfl⟩ := okWide_slice Try.underlying22 hv
  obtain ⟨fuel, hf⟩ := h
  rw [show (Value.slice A n c).cells.toList = [.slice A n c] from rfl] at hf
  have ce : Try.prog.cellsOf 3 = 1 := by kernel_rfl
  rcases DataW.trod_slice Try.underlying22 hf with ⟨hcs, _⟩ | ⟨ad, len, cap, elems, rest, k, _, hcs, hxd, _, hl, hmx, hlen, hel, _⟩
  · injection hcs with hcs _
    injection hcs with e1 e2 e3
    subst e1 e2 e3
    exact ⟨none, 0, 0, [], rfl, Rs.nil _⟩
  · injection hcs with hcs _
    injection hcs with e1 e2 e3
    subst e1 e2 e3
    have each : ∀ i, i < n → ∃ q : Int, W.cell? (ad.add i) = some (.int .i64 q) := by
      intro i hi
      have h1 := hel i hi
      have hil : i < elems.length := by omega
      have hei : elems[i]? = some elems[i] := List.getElem?_eq_getElem hil
      rw [ce, hei, Nat.mul_one] at h1
      obtain ⟨cs', h2, h3⟩ := Option.bind_eq_some_iff.1 h1
      obtain ⟨_, hlen', hcell⟩ := World.cells?_some h2
      match cs', hlen' with
      | [v0], _ =>
        have c0 := hcell 0 (by omega)
        rw [fadd0] at c0
        simp at c0
        obtain ⟨z, e, _⟩ := DataW.trod_int Try.underlying3 h3
        injection e with e _
        exact ⟨z, by rw [c0, e]⟩
    obtain ⟨f, hf⟩ := Go.Deep.choose_lt each
    refine ⟨some ad, n, c, (List.range n).map f, rfl, rs_ofF (e := inE) (k := 1) (fun _ => rfl) hl f fun i hi j hj => ?_⟩
    obtain rfl : j = 0 := by omega
    rw [Nat.mul_one, fadd0, hf i hi]
    rfl
end
end Go.Proofs.Ytnnkioekjobbmaa
