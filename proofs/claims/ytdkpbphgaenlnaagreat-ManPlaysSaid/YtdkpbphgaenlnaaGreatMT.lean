/-
  Texts that the statements' proofs lean on, one behind the other.
-/
import Derived.Test.YtdkpbphgaenlnaaGreatMM
import Derived.Test.YtdkpbphgaenlnaaGreatMG
import Derived.Test.YtdkpbphgaenlnaaGreatQuiet
import Derived.Test.YtdkpbphgaenlnaaGreatMWb
import Derived.Test.YtdkpbphgaenlnaaGreatMV
import Derived.Test.YtdkpbphgaenlnaaGreatMK
/-
  Calls about manifests that came in, as a list.
-/
namespace Go.Proofs.YtdkpbphgaenlnaaGreat
open Go.ChangeShapes Go.WideShapes Go.ChangeAt Go.RowKit
set_option linter.unusedVariables false
set_option linter.unusedSimpArgs false

structure O10 where
  what : Int
  m : Mn
  n : Int
  bytes : List Int
  bits : Int
structure P10 where
  MA : Option Addr
  mn : Nat
  mc : Nat
  IA : Option Addr
  im : Nat
  ic : Nat
instance : Inhabited O10 := ⟨⟨0, Mn.none, 0, [], 0⟩⟩
instance : Inhabited P10 := ⟨⟨none, 0, 0, none, 0, 0⟩⟩
def o10V (o : O10) (p : P10) : List Value := [.int .i64 o.what, .slice p.MA p.mn p.mc, .int .i64 o.m.next, .int .i64 o.n, .slice p.IA p.im p.ic, .int .u32 o.bits]
structure O10At (w : World) (o : O10) (p : P10) : Prop where
  what : -9223372036854775808 ≤ o.what ∧ o.what ≤ 9223372036854775807
  m : MnIn w p.MA p.mn p.mc o.m
  n : -9223372036854775808 ≤ o.n ∧ o.n ≤ 9223372036854775807
  bytes : Ints w p.IA p.im p.ic o.bytes
  each : ∀ x ∈ o.bytes, -9223372036854775808 ≤ x ∧ x ≤ 9223372036854775807
  bits : 0 ≤ o.bits ∧ o.bits ≤ 4294967295
  small : o.m.segs.length ≤ 140737488351232 ∧ o.bytes.length ≤ 140737488351232
structure Ops10 (w : World) (A : Option Addr) (n c : Nat) (os : List O10) : Prop where
  len : os.length = n
  cap : n ≤ c
  top : n ≤ 140737488351232
  spot : ∀ i, i < n → ∃ (ad : Addr) (o : O10) (p : P10), A = some ad ∧ ad.block < w.heap.size ∧ os[i]? = some o ∧ O10At w o p ∧ ∀ k, k < 6 → w.cell? ((ad.add (i * 6)).add k) = (o10V o p)[k]?
theorem MnIn.grow10 {w w' : World} {A : Option Addr} {n c : Nat} {m : Mn} (h : MnIn w A n c m) (hg : Grows w w') : MnIn w' A n c m := h.grow hg
theorem O10At.grow {w w' : World} {o : O10} {p : P10} (h : O10At w o p) (hg : Grows w w') : O10At w' o p := ⟨h.what, h.m.grow hg, h.n, h.bytes.grow hg, h.each, h.bits, h.small⟩
theorem Ops10.grow {w w' : World} {A : Option Addr} {n c : Nat} {os : List O10} (h : Ops10 w A n c os) (hg : Grows w w') : Ops10 w' A n c os :=
  ⟨h.len, h.cap, h.top, fun i hi => by
    obtain ⟨ad, o, p, h1, h2, h3, h4, h5⟩ := h.spot i hi
    exact ⟨ad, o, p, h1, Nat.lt_of_lt_of_le h2 hg.size, h3, h4.grow hg, fun k hk => (hg.cell (by rw [add_block, add_block]; exact h2)).trans (h5 k hk)⟩⟩

section
variable {H : Type} {enc : TypeId × Value → H} {W : World} {base : Nat} {r : Reach}
set_option maxRecDepth 100000 in
theorem open_ops10 {v : Value} {d : DataW H} {p : List MemPlace} (hv : Value.okWide Tryz.prog W r base 22 v) (h : DataW.Trod enc Tryz.prog W 0 (fun _ => true) true 22 v d p) {ts : List TypeId} {ds : List (DataW H)} (hsz : (DataW.weightsEach Tryz.prog ts ds).all (· ≤ reachBytes) = true) {j : Nat}
    (hj : ts[j]? = some 22) (hd : ds[j]? = some d) :
    ∃ A n c os, v = .slice A n c ∧ Ops10 W A n c os := by
  obtain ⟨A, n, c, rfl⟩ := okWide_slice Tryz.underlying22 hv
  obtain ⟨fuel, hf⟩ := h
  have ce : Tryz.prog.cellsOf 34 = 6 := by kernel_rfl
  have c_man : Tryz.prog.cellsOf 31 = 2 := by kernel_rfl
  have c_int : Tryz.prog.cellsOf 3 = 1 := by kernel_rfl
  have c_sint : Tryz.prog.cellsOf 29 = 1 := by kernel_rfl
  have c_uint32 : Tryz.prog.cellsOf 32 = 1 := by kernel_rfl
  rcases DataW.trod_slice Tryz.underlying22 hf with ⟨hcs, _⟩ | ⟨ad, len, cap, elems, rest, k, _, hcs, hxd, _, hl, hmx, hlen, hel, _⟩
  · simp [Value.cells] at hcs
    obtain ⟨rfl, rfl, rfl⟩ := hcs
    exact ⟨none, 0, 0, [], rfl, ⟨rfl, Nat.le_refl _, by omega, fun i hi => absurd hi (Nat.not_lt_zero i)⟩⟩
  · simp [Value.cells] at hcs
    obtain ⟨rfl, rfl, rfl⟩ := hcs
    have hdd : d = .slice (elems.map (·.1)) (rest.map (·.1)) := by
      simp only [Prod.mk.injEq] at hxd
      exact hxd.1
    have wt : ∀ z ∈ d.weights Tryz.prog 22, z ≤ 140737488351232 := fun z hz => by
      have := List.all_eq_true.1 hsz _ (DataW.weights_mem_each hj hd _ hz)
      have h2 : z ≤ reachBytes := by simpa using this
      unfold reachBytes at h2
      omega
    have wtop : n ≤ 140737488351232 := by
      have := wt ((elems.length + rest.length) * 80) (by
        rw [hdd]
        simp only [DataW.weights, Tryz.underlying22]
        refine List.mem_cons.2 (.inl ?_)
        rw [show Tryz.prog.bytesOf 34 = 80 by kernel_rfl]
        simp only [List.length_map])
      omega
    have wts : ∀ (i : Nat) e, elems[i]? = some e → ∀ z ∈ e.1.weights Tryz.prog 34, z ≤ 140737488351232 := fun i e he z hz => wt z (by
      rw [hdd]
      simp only [DataW.weights, Tryz.underlying22]
      exact List.mem_cons_of_mem _ (List.mem_append_left _ (weights_all (List.mem_map.2 ⟨e, List.mem_of_getElem? he, rfl⟩) hz)))
    have each : ∀ i, i < n → ∃ q : O10 × P10, O10At W q.1 q.2 ∧ ∀ k, k < 6 → W.cell? ((ad.add (i * 6)).add k) = (o10V q.1 q.2)[k]? := by
      intro i hi
      have h1 := hel i hi
      have hei : elems[i]? = some elems[i] := List.getElem?_eq_getElem (by omega)
      have wti := wts i _ hei
      rw [ce, hei] at h1
      obtain ⟨cs', h2, h3⟩ := Option.bind_eq_some_iff.1 h1
      obtain ⟨_, hlen', hcell⟩ := World.cells?_some h2
      obtain ⟨ys, k', _, hxa, _, hyl, hf⟩ := DataW.trod_struct Tryz.underlying34 h3
      rw [hxa] at wti
      match ys, hyl, cs', hlen', wti with
      | [y0, y1, y2, y3, y4], _, [v0, v1, v2, v3, v4, v5], _, wti =>
        have wti : ∀ z ∈ y0.1.weights Tryz.prog 3 ++ (y1.1.weights Tryz.prog 31 ++ (y2.1.weights Tryz.prog 3 ++ (y3.1.weights Tryz.prog 29 ++ (y4.1.weights Tryz.prog 32 ++ [])))), z ≤ 140737488351232 := fun z hz => wti z (by
          simp only [DataW.weights, Tryz.underlying34, List.map_cons, List.map_nil, DataW.weightsEach]
          exact hz)
        have g0 : DataW.trod enc Tryz.prog W 0 (fun _ => true) true k' 3 [v0] = some y0 := by
          have h := hf 0 { name := "What", type := 3, offset := 0, embedded := false, tag := "", pkgPath := "", byteOffset := 0 } rfl
          dsimp only at h
          rw [c_int] at h
          exact h
        have g1 : DataW.trod enc Tryz.prog W 0 (fun _ => true) true k' 31 [v1, v2] = some y1 := by
          have h := hf 1 { name := "M", type := 31, offset := 1, embedded := false, tag := "", pkgPath := "", byteOffset := 8 } rfl
          dsimp only at h
          rw [c_man] at h
          exact h
        have g2 : DataW.trod enc Tryz.prog W 0 (fun _ => true) true k' 3 [v3] = some y2 := by
          have h := hf 2 { name := "N", type := 3, offset := 3, embedded := false, tag := "", pkgPath := "", byteOffset := 40 } rfl
          dsimp only at h
          rw [c_int] at h
          exact h
        have g3 : DataW.trod enc Tryz.prog W 0 (fun _ => true) true k' 29 [v4] = some y3 := by
          have h := hf 3 { name := "Bytes", type := 29, offset := 4, embedded := false, tag := "", pkgPath := "", byteOffset := 48 } rfl
          dsimp only at h
          rw [c_sint] at h
          exact h
        have g4 : DataW.trod enc Tryz.prog W 0 (fun _ => true) true k' 32 [v5] = some y4 := by
          have h := hf 4 { name := "Bits", type := 32, offset := 5, embedded := false, tag := "", pkgPath := "", byteOffset := 72 } rfl
          dsimp only at h
          rw [c_uint32] at h
          exact h
        obtain ⟨ws, k2, _, hwa, _, hwl, hg⟩ := DataW.trod_struct Tryz.underlying31 g1
        match ws, hwl, hwa with
        | [u0, u1], _, hwa =>
          have wtm : ∀ z ∈ u0.1.weights Tryz.prog 29 ++ (u1.1.weights Tryz.prog 3 ++ []), z ≤ 140737488351232 := fun z hz => wti z (List.mem_append_right _ (List.mem_append_left _ (by
            rw [hwa]
            simp only [DataW.weights, Tryz.underlying31, List.map_cons, List.map_nil, DataW.weightsEach]
            exact hz)))
          have j0 : DataW.trod enc Tryz.prog W 0 (fun _ => true) true k2 29 [v1] = some u0 := by
            have h := hg 0 { name := "Segs", type := 29, offset := 0, embedded := false, tag := "", pkgPath := "", byteOffset := 0 } rfl
            dsimp only at h
            rw [c_sint] at h
            exact h
          have j1 : DataW.trod enc Tryz.prog W 0 (fun _ => true) true k2 3 [v2] = some u1 := by
            have h := hg 1 { name := "Next", type := 3, offset := 1, embedded := false, tag := "", pkgPath := "", byteOffset := 24 } rfl
            dsimp only at h
            rw [c_int] at h
            exact h
          obtain ⟨z0, e0, _, b0⟩ := DataW.trod_int Tryz.underlying3 g0
          obtain ⟨MA, mn, mc, ms, e1, hM, hMw, hMb⟩ := open_isM j0
          obtain ⟨z2, e2, _, b2⟩ := DataW.trod_int Tryz.underlying3 j1
          obtain ⟨z3, e3, _, b3⟩ := DataW.trod_int Tryz.underlying3 g2
          obtain ⟨IA, im, ic, is, e4, hI, hIw, hIb⟩ := open_isM g3
          obtain ⟨z5, e5, _, b5⟩ := DataW.trod_int Tryz.underlying32 g4
          have c0 := hcell 0 (by omega)
          have c1 := hcell 1 (by omega)
          have c2 := hcell 2 (by omega)
          have c3 := hcell 3 (by omega)
          have c4 := hcell 4 (by omega)
          have c5 := hcell 5 (by omega)
          simp at c0 c1 c2 c3 c4 c5 e0 e2 e3 e5
          subst e0 e1 e2 e3 e4 e5
          refine ⟨(⟨z0, ⟨ms, z2⟩, z3, is, z5⟩, ⟨MA, mn, mc, IA, im, ic⟩), ⟨bounds_i64 b0, ⟨hM, hMb, bounds_i64 b2⟩, bounds_i64 b3, hI, hIb, bounds_u32 b5, ⟨?_, ?_⟩⟩, fun k hk => ?_⟩
          · have hlen := hM.len
            have hcap := hM.cap
            show ms.length ≤ _
            rcases hMw with h | h
            · omega
            · have := wtm _ (List.mem_append_left _ h)
              omega
          · have hlen := hI.len
            have hcap := hI.cap
            show is.length ≤ _
            rcases hIw with h | h
            · omega
            · have := wti _ (List.mem_append_right _ (List.mem_append_right _ (List.mem_append_right _ (List.mem_append_left _ h))))
              omega
          · match k, hk with
            | 0, _ => exact c0
            | 1, _ => exact c1
            | 2, _ => exact c2
            | 3, _ => exact c3
            | 4, _ => exact c4
            | 5, _ => exact c5
    obtain ⟨f, hf⟩ := Go.Deep.choose_lt each
    refine ⟨some ad, n, c, (List.range n).map fun i => (f i).1, rfl, ⟨by simp, hl, wtop, fun i hi => ?_⟩⟩
    obtain ⟨h1, h2⟩ := hf i hi
    refine ⟨ad, (f i).1, (f i).2, rfl, ?_, by rw [List.getElem?_map, List.getElem?_range hi]; rfl, h1, h2⟩
    have := World.block_lt_of_cell? W _ (h2 0 (by omega) : _ = some (Value.int .i64 (f i).1.what))
    rwa [add_block, add_block] at this
end
end Go.Proofs.YtdkpbphgaenlnaaGreat

/-
  Are the calls about manifests that came in too many?
-/
namespace Go.Proofs.YtdkpbphgaenlnaaGreat
open Go.RowKit
set_option linter.unusedVariables false
set_option linter.unusedSimpArgs false
def o10len (o : O10) : Nat := o.m.segs.length + o.bytes.length
def o10min (os : List O10) : Nat := (os.map fun o => min (o10len o) 9000).sum
def o10all (os : List O10) : Nat := (os.map o10len).sum
theorem o10min_one {os : List O10} {i : Nat} {o : O10} (h : os[i]? = some o) : o10min (os.take (i + 1)) = o10min (os.take i) + min (o10len o) 9000 := by
  unfold o10min
  rw [List.take_add_one, h, List.map_append, List.sum_append]
  simp
theorem o10all_one {os : List O10} {i : Nat} {o : O10} (h : os[i]? = some o) : o10all (os.take (i + 1)) = o10all (os.take i) + o10len o := by
  unfold o10all
  rw [List.take_add_one, h, List.map_append, List.sum_append]
  simp
theorem o10all_take (os : List O10) (i : Nat) : o10all (os.take i) ≤ o10all os := by
  unfold o10all
  conv => rhs; rw [← List.take_append_drop i os, List.map_append, List.sum_append]
  omega
theorem o10min_small : ∀ {os : List O10}, o10min os < 9000 → o10all os = o10min os
  | [], _ => rfl
  | o :: os, h => by
    unfold o10min at h
    rw [List.map_cons, List.sum_cons] at h
    have h2 : o10min os < 9000 := by unfold o10min; omega
    have := o10min_small h2
    unfold o10all o10min at *
    rw [List.map_cons, List.sum_cons, List.map_cons, List.sum_cons, this]
    omega
set_option maxRecDepth 100000 in
set_option maxHeartbeats 8000000 in
theorem great10_any (A : Option Addr) (n c : Nat) (os : List O10) (w : World) (hx : Ops10 w A n c os) :
    Calls Tryz.prog 8 #[.slice A n c] w fun e w' => (e = .returned (.bool true) ∧ Grows w w') ∨ (e = .returned (.bool false) ∧ n ≤ 100 ∧ n + o10all os < 9000 ∧ Grows w w') := by
  have HX := Lib.hid hx
  have HLEN := Lib.hid hx.len
  have hnc := hx.cap
  have htop := hx.top
  clear hx
  go_enter Tryz.func8, Tryz.ntmps8
  go_wp2_with (fail)
  by_cases hbig : 9000 ≤ n
  · have hb1 : ¬ n < 9000 := by omega
    have hb2 : ¬ (n : Int) < 9000 := by omega
    have hb3 : (9000 : Int) ≤ (n : Int) := by omega
    go_loopw [3, 4] (fun vn vi wr => vn = .int .i64 (n : Nat) ∧ vi = .int .i64 0 ∧ w = wr) (fun _ _ _ => 0)
    case atStart => exact ⟨rfl, rfl, rfl⟩
    case round =>
      obtain ⟨rfl, rfl, rfl⟩ := hrel
      have h0 : (0 : Int) < (n : Int) := by omega
      have h0' : 0 < n := by omega
      go_wp2_with (fail)
      go_ret
      exact .inl ⟨rfl, Grows.refl _⟩
  · go_loopw [3, 4] (fun vn vi wr => ∃ k acc : Nat, k ≤ n ∧ acc ≤ 18000 ∧ vn = .int .i64 (acc : Nat) ∧ vi = .int .i64 (k : Nat) ∧ Hid (acc = n + o10min (os.take k)) ∧ Hid (Grows w wr)) (fun _ i _ => n - (intOf i).toNat)
    case atStart => exact ⟨0, n, Nat.zero_le _, by omega, rfl, rfl, Lib.hid (by simp [o10min]), Lib.hid (Grows.refl _)⟩
    case round =>
      obtain ⟨k, acc, hk, hacc, rfl, rfl, HACC, HG⟩ := hrel
      by_cases hlt : k < n
      · by_cases hac : acc < 9000
        · obtain ⟨ad, o, p, rfl, hblk, hoi, hat, hcs⟩ := HX.out.spot k hlt
          have k0 : (0 : Int) ≤ (k : Int) := by omega
          have k1 : (k : Int) < (n : Int) := by omega
          have ka : (acc : Int) < 9000 := by omega
          have ii : IntKind.i64.wrap ((k : Int) + 1) = (k : Int) + 1 := wadd k 1 (k + 1) rfl (by omega)
          have hlm := hat.m.segs.len
          have hli := hat.bytes.len
          have hsm := hat.small
          have c1 : ∀ w', Grows wr w' → w'.cell? { block := (ad.add (k * 6)).block, off := (ad.add (k * 6)).off + 1 } = some (.slice p.MA p.mn p.mc) := fun w' hg => by
            have := hcs 1 (by omega)
            rw [add_fld] at this
            rw [(Grows.trans HG.out hg).cell (by rw [add_block]; exact hblk), this]
            rfl
          have c4 : ∀ w', Grows wr w' → w'.cell? { block := (ad.add (k * 6)).block, off := (ad.add (k * 6)).off + 4 } = some (.slice p.IA p.im p.ic) := fun w' hg => by
            have := hcs 4 (by omega)
            rw [add_fld] at this
            rw [(Grows.trans HG.out hg).cell (by rw [add_block]; exact hblk), this]
            rfl
          have HCF := Lib.hid (fun w' hg => And.intro (c1 w' hg) (c4 w' hg))
          obtain ⟨t3, ht3⟩ : ∃ t, p.mn + p.im = t := ⟨_, rfl⟩
          have w3 := wadd _ _ _ ht3 (by omega)
          have ht : o10len o = t3 := by unfold o10len; omega
          have HT := Lib.hid (And.intro ht hoi)
          obtain ⟨mn, hmn⟩ : ∃ x, p.mn = x := ⟨_, rfl⟩
          obtain ⟨im, him⟩ : ∃ x, p.im = x := ⟨_, rfl⟩
          have HPQ := Lib.hid (And.intro hmn him)
          rw [hmn, him] at w3
          obtain ⟨q, hq⟩ : ∃ q, min t3 9000 = q := ⟨_, rfl⟩
          have hq9 : q ≤ 9000 := by omega
          have w4 := wadd acc q (acc + q) rfl (by omega)
          have HVAL := Lib.hid (show acc + q = n + o10min (os.take (k + 1)) by rw [o10min_one HT.out.2, HT.out.1, hq]; have := HACC.out; omega)
          have HLQ := Lib.hid (show acc + q ≤ 18000 by omega)
          clear hlm hli hsm ht hoi hat hcs c1 c4 ht3 hmn him
          go_wp2_with (fail)
          refine q_region (by kernel_rfl) (by kernel_rfl) ?_
          iterate 18 (refine q_op' (v := ?_) (a' := ?_) (by rfl) ?_ ?_ ?_
                      rotate_left 2
                      · intro w' hC
                        obtain ⟨z1, z4⟩ := HCF.out w' hC
                        first
                          | (go_simp; done)
                          | (go_simp; with_reducible rfl)
                      · simp only [Act.put, List.setIfInBounds_toArray, List.set_cons_zero, List.set_cons_succ]
                        try rfl)
          refine wpQuiet_nil ?_
          intro w5 hC
          have HG5 := Lib.hid (Grows.trans HG.out hC)
          clear hC HCF HG
          go_wp2_with (fail)
          refine ⟨⟨k + 1, acc + q, hlt, HLQ.out, ?_, rfl, HVAL, HG5⟩, less_one hlt⟩
          rw [HPQ.out.1, HPQ.out.2, w3]
          first
            | rw [minval t3 q hq, w4]
            | rw [show min (t3 : Int) 9000 = (q : Int) by omega, w4]
        · have ka : ¬ (acc : Int) < 9000 := by omega
          have kb : (9000 : Int) ≤ (acc : Int) := by omega
          have k1 : (k : Int) < (n : Int) := by omega
          go_wp2_with (fail)
          go_ret
          exact .inl ⟨rfl, HG.out⟩
      · obtain rfl : k = n := by omega
        by_cases h2 : 9000 ≤ acc
        · have h3 : (9000 : Int) ≤ (acc : Int) := by omega
          go_wp2_with (fail)
          go_ret
          exact .inl ⟨rfl, HG.out⟩
        · have h3 : ¬ (9000 : Int) ≤ (acc : Int) := by omega
          by_cases h5 : 100 < k
          · have h6 : (100 : Int) < (k : Int) := by omega
            go_wp2_with (fail)
            go_ret
            exact .inl ⟨rfl, HG.out⟩
          · have h6 : ¬ (100 : Int) < (k : Int) := by omega
            have HFIN := Lib.hid (show k ≤ 100 ∧ k + o10all os < 9000 by
              have h1 := HACC.out
              rw [List.take_of_length_le (by rw [HLEN.out]; exact Nat.le_refl _)] at h1
              rw [o10min_small (by omega)]
              omega)
            go_wp2_with (fail)
            go_ret
            exact .inr ⟨rfl, HFIN.out.1, HFIN.out.2, HG.out⟩
end Go.Proofs.YtdkpbphgaenlnaaGreat

/-
  The walk of the answer's Save: both disks go together behind it.
-/
namespace Go.Proofs.YtdkpbphgaenlnaaGreat
open Go.RowKit
set_option linter.unusedVariables false
set_option linter.unusedSimpArgs false
theorem Sl.spareN {own : Nat → Prop} {w w' : World} {A : Option Addr} {n c : Nat} {bs : List UInt8} (h : Sl w A n c bs) (hs : Spares own w w') (ho : ∀ ad, A = some ad → ¬ own ad.block) : Sl w' A n c bs :=
  ⟨⟨by rw [List.length_map]; exact h.bytes.len, fun k v hv => by
    obtain ⟨ad, h1, h2, h3⟩ := Row.spot h.bytes k v hv
    refine ⟨ad, h1, Nat.lt_of_lt_of_le h2 hs.size, ?_⟩
    rw [World.cell?_of_block (hs.same (ad.add k).block (by rw [add_block]; exact h2) (by rw [add_block]; exact ho ad h1))]
    exact h3⟩, h.cap, h.bare⟩
theorem own_block {w : World} {base r : Nat} {t : TypeId} {A : Option Addr} {k c n : Nat} {xs : List Value} (h : w.ownsRow base t 1 (.slice A k c) n xs) (hr : r < base) : ∀ ad, A = some ad → ad.block ≠ r := by
  intro ad e
  subst e
  have := (h.lt ad.block rfl).1
  omega
theorem seqP_ok (s : Dk → Dk × Int) (l : List (Dk → Dk × Int)) (m : Dk) (h : (s m).2 = 0) : seqP (s :: l) m = seqP l (s m).1 := if_pos h
theorem seqP_ko (s : Dk → Dk × Int) (l : List (Dk → Dk × Int)) (m : Dk) (h : (s m).2 ≠ 0) : seqP (s :: l) m = s m := if_neg h
/-- What a call of the document's disk leaves: the answer, and a disk that goes with m's. -/
def RTo (w0 w : World) (d r : Nat) (out : Nat → Prop) (mm : Dk) (K : Nat) (p : Dk × Int) (e : Ending) (w' : World) : Prop := e = .returned (.int .i64 p.2) ∧ (∃ x', Two w0.heap.size w0 w' d r out mm x' ∧ G2 K p.1 x') ∧ Stays w0.heap.size out w w'
section
variable {d r K : Nat} {w0 w w' : World} {out : Nat → Prop} {m mm : Dk} {x : Rf}
theorem rs_size (h : Two w0.heap.size w0 w d r out mm x) (hG : G2 K m x) (hK : K ≤ 100000) {n : Nm} {v : Int} {b : Bool} (hv : m.size n = (v, b)) : Calls Tryz.prog 51 #[.pointer (some ⟨r, 0, none⟩), .string ⟨n.toArray⟩] w fun e w' => e = .returned (.tuple #[.int .i64 v, .bool b]) ∧ Grows w w' := by
  obtain ⟨ro, fv, nv, kv, pv, h1⟩ := h.rf
  have := rsize_any w n h1 (hG.fit hK)
  rw [hG.sizes, hv] at this
  exact this
theorem rs_create (h : Two w0.heap.size w0 w d r out mm x) (hG : G2 K m x) (hK : K ≤ 100000) (n : Nm) : Calls Tryz.prog 20 #[.pointer (some ⟨r, 0, none⟩), .string ⟨n.toArray⟩] w (RTo w0 w d r out mm (K + 1) (m.create n)) := by
  have hg := hG.create hK n
  refine (h.rop (v := .returned (.int .i64 (m.create n).2)) (x' := (x.create n).1) fun ro fv nv kv pv k1 k2 => (rcreate_any _ n k1 (hG.fit hK)).mono fun e w' hh => ⟨by rw [hh.1, hg.1], hh.2⟩).mono ?_
  rintro e w' ⟨rfl, ht, hs⟩
  exact ⟨rfl, ⟨_, ht, hg.2⟩, hs⟩
theorem rs_remove (h : Two w0.heap.size w0 w d r out mm x) (hG : G2 K m x) (hK : K ≤ 100000) (n : Nm) : Calls Tryz.prog 52 #[.pointer (some ⟨r, 0, none⟩), .string ⟨n.toArray⟩] w (RTo w0 w d r out mm (K + 1) (m.remove n)) := by
  have hg := hG.remove hK n
  refine (h.rop (v := .returned (.int .i64 (m.remove n).2)) (x' := (x.remove n).1) fun ro fv nv kv pv k1 k2 => (rremove_any _ n k1 (hG.fit hK)).mono fun e w' hh => ⟨by rw [hh.1, hg.1], hh.2⟩).mono ?_
  rintro e w' ⟨rfl, ht, hs⟩
  exact ⟨rfl, ⟨_, ht, hg.2⟩, hs⟩
theorem rs_sync (h : Two w0.heap.size w0 w d r out mm x) (hG : G2 K m x) (hK : K ≤ 100000) (n : Nm) : Calls Tryz.prog 55 #[.pointer (some ⟨r, 0, none⟩), .string ⟨n.toArray⟩] w (RTo w0 w d r out mm (K) (m.sync n)) := by
  have hg := hG.sync n
  refine (h.rop (v := .returned (.int .i64 (m.sync n).2)) (x' := (x.sync n).1) fun ro fv nv kv pv k1 k2 => (rsync_any _ n k1 (hG.fit hK)).mono fun e w' hh => ⟨by rw [hh.1, hg.1], hh.2⟩).mono ?_
  rintro e w' ⟨rfl, ht, hs⟩
  exact ⟨rfl, ⟨_, ht, hg.2⟩, hs⟩
theorem rs_rename (h : Two w0.heap.size w0 w d r out mm x) (hG : G2 K m x) (hK : K ≤ 100000) (n to : Nm) : Calls Tryz.prog 56 #[.pointer (some ⟨r, 0, none⟩), .string ⟨n.toArray⟩, .string ⟨to.toArray⟩] w (RTo w0 w d r out mm (K + 1) (m.rename n to)) := by
  have hg := hG.rename hK n to
  refine (h.rop (v := .returned (.int .i64 (m.rename n to).2)) (x' := (x.rename n to).1) fun ro fv nv kv pv k1 k2 => (rrename_any _ n to k1 (hG.fit hK)).mono fun e w' hh => ⟨by rw [hh.1, hg.1], hh.2⟩).mono ?_
  rintro e w' ⟨rfl, ht, hs⟩
  exact ⟨rfl, ⟨_, ht, hg.2⟩, hs⟩
theorem rs_syncDir (h : Two w0.heap.size w0 w d r out mm x) (hG : G2 K m x) (hK : K ≤ 100000) : Calls Tryz.prog 57 #[.pointer (some ⟨r, 0, none⟩)] w (RTo w0 w d r out mm (K) (m.syncDir)) := by
  have hg := hG.syncDir
  refine (h.rop (v := .returned (.int .i64 (m.syncDir).2)) (x' := (x.syncDir).1) fun ro fv nv kv pv k1 k2 => (rsyncDir_any _ k1 (hG.fit hK)).mono fun e w' hh => ⟨by rw [hh.1, hg.1], hh.2⟩).mono ?_
  rintro e w' ⟨rfl, ht, hs⟩
  exact ⟨rfl, ⟨_, ht, hg.2⟩, hs⟩
theorem rs_append (h : Two w0.heap.size w0 w d r out mm x) (hG : G2 K m x) (hK : K ≤ 100000) (n : Nm) {A : Option Addr} {k c : Nat} {b : List UInt8} (hb : Sl w A k c b) (hA : ∀ ad, A = some ad → ad.block ≠ r) (hk : k ≤ 100000) : Calls Tryz.prog 53 #[.pointer (some ⟨r, 0, none⟩), .string ⟨n.toArray⟩, .slice A k c] w (RTo w0 w d r out mm (K + b.length) (m.append n b)) := by
  have hg := hG.append hK n b (by have := hb.len; omega)
  refine (h.rop (v := .returned (.int .i64 (m.append n b).2)) (x' := (x.append n b).1) fun ro fv nv kv pv k1 k2 => (rappend_any _ n b (fun u1 u2 u3 g1 g2 g3 => ((hb.grow g1).spareN g2 hA).grow g3) hk k1 (hG.fit hK) hG.mosts).mono fun e w' hh => ⟨by rw [hh.1, hg.1], hh.2⟩).mono ?_
  rintro e w' ⟨rfl, ht, hs⟩
  exact ⟨rfl, ⟨_, ht, hg.2⟩, hs⟩

set_option maxRecDepth 100000 in
set_option maxHeartbeats 8000000 in
theorem rsave_any (h : Two w0.heap.size w0 w d r out mm x) (hG : G2 K m x) (A : Option Addr) (n c : Nat) (hK : K + 20 + 4 * n ≤ 100000) (y : Mn) (hx : MnIn w0 A n c y) (hbig : n ≤ 1000000000) :
    Calls Tryz.prog 10 #[.pointer (some ⟨r, 0, none⟩), .agg #[.slice A n c, .int .i64 y.next]] w (RTo w0 w d r out mm (K + 20 + 4 * n) (saveP m y)) := by
  obtain ⟨nx, hnx⟩ : ∃ nx, y.next = nx := ⟨_, rfl⟩
  obtain ⟨b, hb⟩ : ∃ b, rightM y = b := ⟨_, rfl⟩
  obtain ⟨pm, hpm⟩ : ∃ p, putM y = p := ⟨_, rfl⟩
  have hga := grows_alloc w (.cells #[.slice A n c, .int .i64 nx] 31)
  have hm0 := Whole.made w 31 #[.slice A n c, .int .i64 nx]
  have h0 : Two w0.heap.size w0 (w.alloc (.cells #[.slice A n c, .int .i64 nx] 31)) d r (fun k => out k ∨ k = w.heap.size) mm x := (h.more hga).less fun k hk => hk.imp id fun e => by rw [World.size_alloc]; omega
  obtain ⟨wb, hwb⟩ : ∃ u, w.alloc (.cells #[.slice A n c, .int .i64 nx] 31) = u := ⟨_, rfl⟩
  rw [hwb] at hga hm0 h0
  have c0 := hm0.cell 0
  have c1 := hm0.cell 1
  simp only [List.getElem?_toArray, List.getElem?_cons_zero, List.getElem?_cons_succ] at c0 c1
  have HGA := Lib.hid hga
  have HPL0 := Lib.hid (show pm.length ≤ 15 + 4 * n by
    rw [← hpm]
    cases hrr : rightM y with
    | false => rw [putM_ill hrr]; exact Nat.zero_le _
    | true => rw [putM_length hrr]; have := hx.segs.len; omega)
  have hr := mrefRight_any wb A n c y (hx.grow h0.low) hbig
  rw [hb, hnx] at hr
  have HPUT := Lib.hid (fun w' (hg : Grows w0 w') => by
    have h1 := mrefPut_any w' A n c y (hx.grow hg) hbig
    rw [hnx, hpm] at h1
    exact h1)
  obtain ⟨res, hres⟩ : ∃ q, saveP m y = q := ⟨_, rfl⟩
  rw [hres, hnx]
  unfold saveP at hres
  rw [hb, hpm] at hres
  have HPM := Lib.hid hpm
  have HRI := Lib.hid hr
  have H := Lib.hid h0
  have HB0 := Lib.hid (And.intro hm0 ((Spares.refl _ wb : Stays w0.heap.size (fun k => out k ∨ k = w.heap.size) wb wb)))
  have HGG := Lib.hid hG
  have HRES := Lib.hid hres
  clear hx hr h h0 hG hres hb hpm hnx hga hm0
  go_enter Tryz.func10, Tryz.ntmps10
  go_wp2_with (fail)
  refine HRI.out.mono ?_
  rintro e w1 ⟨rfl, hg1⟩
  have HT1 := Lib.hid (H.out.grow hg1)
  have HB1 := Lib.hid (And.intro (hg1.whole HB0.out.1) (HB0.out.2.trans (Stays.grows hg1)))
  clear hg1 HRI H c0 c1
  cases b with
  | false =>
    obtain rfl : res = (m, 1) := by have := HRES.out; rw [if_neg (by decide)] at this; exact this.symm
    go_wp2_with (fail)
    go_ret
    exact ⟨rfl, ⟨_, HT1.out.less fun k hk => .inl hk, HGG.out.mono (by omega)⟩, (Stays.grows HGA.out).trans (HB1.out.2.wider fun k _ hk => ⟨hk.1, fun e => hk.2 (.inl e)⟩)⟩
  | true =>
    replace HRES := Lib.hid (show seqP (stepsP pm) m = res from by have := HRES.out; rw [if_pos rfl] at this; exact this)
    obtain ⟨⟨sv, sb⟩, hsz⟩ : ∃ q, m.size nmT = q := ⟨_, rfl⟩
    have hs1 := rs_size HT1.out HGG.out (by omega) hsz
    have HS1 := Lib.hid hs1
    have HSZ := Lib.hid hsz
    clear hs1 hsz
    go_wp2_with (fail)
    refine HS1.out.mono ?_
    rintro e w2 ⟨rfl, hg2⟩
    have HT2 := Lib.hid (HT1.out.grow hg2)
    have HB2 := Lib.hid (And.intro (hg2.whole HB1.out.1) (HB1.out.2.trans (Stays.grows hg2)))
    clear hg2 HS1
    have hmain : True := trivial
    cases sb with
    | false =>
      have HRES2 := HRES
      replace HRES := Lib.hid (show seqP (stepsP pm).tail m = res from by
        have hrr := HRES2.out
        unfold stepsP at hrr ⊢
        rw [seqP_ok _ _ _ (by unfold leftP; rw [HSZ.out]; rfl)] at hrr
        have : (leftP m).1 = m := by unfold leftP; rw [HSZ.out]; rfl
        rw [this] at hrr
        exact hrr)
      clear HRES2
      unfold stepsP at HRES
      dsimp only [List.tail_cons] at HRES
      obtain ⟨m3, hm3⟩ : ∃ q, m = q := ⟨_, rfl⟩
      rw [hm3] at HRES HGG
      have HT3 := HT2
      have HB3 := HB2
      have HG3 := Lib.hid (HGG.out.mono (Nat.le_succ K))
      obtain ⟨⟨m4, v4⟩, hm4⟩ : ∃ q, m3.create nmT = q := ⟨_, rfl⟩
      have hc4 := rs_create HT3.out HG3.out (by omega) nmT
      rw [hm4] at hc4
      have HC4 := Lib.hid hc4
      have HM4 := Lib.hid hm4
      clear hc4 hm4
      go_wp2_with (fail)
      refine HC4.out.mono ?_
      rintro e w4 ⟨rfl, ⟨x4, ht4, hg4⟩, hs4⟩
      have HB4 := Lib.hid (And.intro (HB3.out.1.same (hs4.same _ HB3.out.1.lt fun e => e.2 (.inr rfl))) (HB3.out.2.trans hs4))
      have HT4 := Lib.hid ht4
      have HG4 := Lib.hid hg4
      clear ht4 hg4 hs4
      dsimp only
      by_cases hv4 : v4 = 0
      rotate_left 1
      · have hvb4 : (v4 == 0) = false := by rw [beq_eq_false_iff_ne]; exact hv4
        have hrr := HRES.out
        rw [seqP_ko _ _ _ (by rw [HM4.out]; exact hv4), HM4.out] at hrr
        subst hrr
        have HV4 := Lib.hid hv4
        clear hv4 HRES
        go_wp2_with (fail)
        go_ret
        exact ⟨rfl, ⟨_, HT4.out.less fun k hk => .inl hk, HG4.out.mono (by omega)⟩, (Stays.grows HGA.out).trans (HB4.out.2.wider fun k _ hk => ⟨hk.1, fun e => hk.2 (.inl e)⟩)⟩
      subst hv4
      replace HRES := Lib.hid (show seqP _ m4 = res from by
        have hrr := HRES.out
        rw [seqP_ok _ _ _ (by rw [HM4.out]), HM4.out] at hrr
        exact hrr)
      have hpu := HPUT.out w4 HT4.out.low
      have k0 := HB4.out.1.cell 0
      have k1 := HB4.out.1.cell 1
      simp only [List.getElem?_toArray, List.getElem?_cons_zero, List.getElem?_cons_succ] at k0 k1
      have HPP := Lib.hid hpu
      clear hpu
      go_wp2_with (fail)
      refine HPP.out.mono ?_
      rintro e w5 ⟨A5, k5, c5, rfl, ho5, hg5⟩
      have hT5 := HT4.out.grow hg5
      have HB5 := Lib.hid (And.intro (hg5.whole HB4.out.1) (HB4.out.2.trans (Stays.grows hg5)))
      clear k0 k1
      have HPL := HPL0
      have hrlt : r < w4.heap.size := by obtain ⟨ro, fv, nv, kv, pv, k1⟩ := HT4.out.rf; exact k1.top.lt
      have hap := rs_append hT5 HG4.out (by omega) nmT (Sl.owned ho5) (own_block ho5 hrlt) (by have := (Sl.owned ho5).len; have := HPL.out; omega)
      have HAP := Lib.hid hap
      obtain ⟨⟨m6, v6⟩, hm6⟩ : ∃ q, m4.append nmT pm = q := ⟨_, rfl⟩
      rw [hm6] at HAP
      have HM6 := Lib.hid hm6
      clear hap hm6 ho5 hg5 hT5 hrlt HPP
      go_wp2_with (fail)
      refine HAP.out.mono ?_
      rintro e w6 ⟨rfl, ⟨x6, ht6, hg6⟩, hs6⟩
      have HB6 := Lib.hid (And.intro (HB5.out.1.same (hs6.same _ HB5.out.1.lt fun e => e.2 (.inr rfl))) (HB5.out.2.trans hs6))
      have HT6 := Lib.hid ht6
      have HG6 := Lib.hid (hg6.mono (show K + 1 + 1 + pm.length ≤ K + 17 + 4 * n by have := HPL.out; omega))
      clear ht6 hg6 hs6 HAP
      dsimp only
      by_cases hv6 : v6 = 0
      rotate_left 1
      · have hvb6 : (v6 == 0) = false := by rw [beq_eq_false_iff_ne]; exact hv6
        have hrr := HRES.out
        rw [seqP_ko _ _ _ (by rw [HM6.out]; exact hv6), HM6.out] at hrr
        subst hrr
        have HV6 := Lib.hid hv6
        clear hv6 HRES
        go_wp2_with (fail)
        go_ret
        exact ⟨rfl, ⟨_, HT6.out.less fun k hk => .inl hk, HG6.out.mono (by omega)⟩, (Stays.grows HGA.out).trans (HB6.out.2.wider fun k _ hk => ⟨hk.1, fun e => hk.2 (.inl e)⟩)⟩
      subst hv6
      replace HRES := Lib.hid (show seqP _ m6 = res from by
        have hrr := HRES.out
        rw [seqP_ok _ _ _ (by rw [HM6.out]), HM6.out] at hrr
        exact hrr)
      obtain ⟨⟨m7, v7⟩, hm7⟩ : ∃ q, m6.sync nmT = q := ⟨_, rfl⟩
      have hc7 := rs_sync HT6.out HG6.out (by omega) nmT
      rw [hm7] at hc7
      have HC7 := Lib.hid hc7
      have HM7 := Lib.hid hm7
      clear hc7 hm7
      go_wp2_with (fail)
      refine HC7.out.mono ?_
      rintro e w7 ⟨rfl, ⟨x7, ht7, hg7⟩, hs7⟩
      have HB7 := Lib.hid (And.intro (HB6.out.1.same (hs7.same _ HB6.out.1.lt fun e => e.2 (.inr rfl))) (HB6.out.2.trans hs7))
      have HT7 := Lib.hid ht7
      have HG7 := Lib.hid hg7
      clear ht7 hg7 hs7
      dsimp only
      by_cases hv7 : v7 = 0
      rotate_left 1
      · have hvb7 : (v7 == 0) = false := by rw [beq_eq_false_iff_ne]; exact hv7
        have hrr := HRES.out
        rw [seqP_ko _ _ _ (by rw [HM7.out]; exact hv7), HM7.out] at hrr
        subst hrr
        have HV7 := Lib.hid hv7
        clear hv7 HRES
        go_wp2_with (fail)
        go_ret
        exact ⟨rfl, ⟨_, HT7.out.less fun k hk => .inl hk, HG7.out.mono (by omega)⟩, (Stays.grows HGA.out).trans (HB7.out.2.wider fun k _ hk => ⟨hk.1, fun e => hk.2 (.inl e)⟩)⟩
      subst hv7
      replace HRES := Lib.hid (show seqP _ m7 = res from by
        have hrr := HRES.out
        rw [seqP_ok _ _ _ (by rw [HM7.out]), HM7.out] at hrr
        exact hrr)
      obtain ⟨⟨m8, v8⟩, hm8⟩ : ∃ q, m7.rename nmT nmM = q := ⟨_, rfl⟩
      have hc8 := rs_rename HT7.out HG7.out (by omega) nmT nmM
      rw [hm8] at hc8
      have HC8 := Lib.hid hc8
      have HM8 := Lib.hid hm8
      clear hc8 hm8
      go_wp2_with (fail)
      refine HC8.out.mono ?_
      rintro e w8 ⟨rfl, ⟨x8, ht8, hg8⟩, hs8⟩
      have HB8 := Lib.hid (And.intro (HB7.out.1.same (hs8.same _ HB7.out.1.lt fun e => e.2 (.inr rfl))) (HB7.out.2.trans hs8))
      have HT8 := Lib.hid ht8
      have HG8 := Lib.hid hg8
      clear ht8 hg8 hs8
      dsimp only
      by_cases hv8 : v8 = 0
      rotate_left 1
      · have hvb8 : (v8 == 0) = false := by rw [beq_eq_false_iff_ne]; exact hv8
        have hrr := HRES.out
        rw [seqP_ko _ _ _ (by rw [HM8.out]; exact hv8), HM8.out] at hrr
        subst hrr
        have HV8 := Lib.hid hv8
        clear hv8 HRES
        go_wp2_with (fail)
        go_ret
        exact ⟨rfl, ⟨_, HT8.out.less fun k hk => .inl hk, HG8.out.mono (by omega)⟩, (Stays.grows HGA.out).trans (HB8.out.2.wider fun k _ hk => ⟨hk.1, fun e => hk.2 (.inl e)⟩)⟩
      subst hv8
      replace HRES := Lib.hid (show seqP _ m8 = res from by
        have hrr := HRES.out
        rw [seqP_ok _ _ _ (by rw [HM8.out]), HM8.out] at hrr
        exact hrr)
      obtain ⟨⟨m9, v9⟩, hm9⟩ : ∃ q, m8.syncDir = q := ⟨_, rfl⟩
      have hc9 := rs_syncDir HT8.out HG8.out (by omega)
      rw [hm9] at hc9
      have HC9 := Lib.hid hc9
      have HM9 := Lib.hid hm9
      clear hc9 hm9
      go_wp2_with (fail)
      refine HC9.out.mono ?_
      rintro e w9 ⟨rfl, ⟨x9, ht9, hg9⟩, hs9⟩
      have HB9 := Lib.hid (And.intro (HB8.out.1.same (hs9.same _ HB8.out.1.lt fun e => e.2 (.inr rfl))) (HB8.out.2.trans hs9))
      have HT9 := Lib.hid ht9
      have HG9 := Lib.hid hg9
      clear ht9 hg9 hs9
      dsimp only
      obtain rfl : res = (m9, v9) := by
        have hrr := HRES.out
        by_cases hv : v9 = 0
        · rw [seqP_ok _ _ _ (by rw [HM9.out]; exact hv), HM9.out, hv] at hrr
          rw [hv]; exact hrr.symm
        · rw [seqP_ko _ _ _ (by rw [HM9.out]; exact hv), HM9.out] at hrr
          exact hrr.symm
      go_wp2_with (fail)
      go_ret
      exact ⟨rfl, ⟨_, HT9.out.less fun k hk => .inl hk, HG9.out.mono (by omega)⟩, (Stays.grows HGA.out).trans (HB9.out.2.wider fun k _ hk => ⟨hk.1, fun e => hk.2 (.inl e)⟩)⟩
    | true =>
      obtain ⟨⟨m3, v3⟩, hm3⟩ : ∃ q, m.remove nmT = q := ⟨_, rfl⟩
      have hc3 := rs_remove HT2.out HGG.out (by omega) nmT
      rw [hm3] at hc3
      have HC3 := Lib.hid hc3
      have HM3 := Lib.hid (show leftP m = (m3, v3) by unfold leftP; rw [HSZ.out, if_pos rfl, hm3])
      clear hc3 hm3
      unfold stepsP at HRES
      go_wp2_with (fail)
      refine HC3.out.mono ?_
      rintro e w3 ⟨rfl, ⟨x3, ht3, hg3⟩, hs3⟩
      have HB3 := Lib.hid (And.intro (HB2.out.1.same (hs3.same _ HB2.out.1.lt fun e => e.2 (.inr rfl))) (HB2.out.2.trans hs3))
      have HT3 := Lib.hid ht3
      have HG3 := Lib.hid hg3
      clear ht3 hg3 hs3
      dsimp only
      by_cases hv3 : v3 = 0
      rotate_left 1
      · have hvb3 : (v3 == 0) = false := by rw [beq_eq_false_iff_ne]; exact hv3
        have hrr := HRES.out
        rw [seqP_ko _ _ _ (by rw [HM3.out]; exact hv3), HM3.out] at hrr
        subst hrr
        have HV3 := Lib.hid hv3
        clear hv3 HRES
        go_wp2_with (fail)
        go_ret
        exact ⟨rfl, ⟨_, HT3.out.less fun k hk => .inl hk, HG3.out.mono (by omega)⟩, (Stays.grows HGA.out).trans (HB3.out.2.wider fun k _ hk => ⟨hk.1, fun e => hk.2 (.inl e)⟩)⟩
      subst hv3
      replace HRES := Lib.hid (show seqP _ m3 = res from by
        have hrr := HRES.out
        rw [seqP_ok _ _ _ (by rw [HM3.out]), HM3.out] at hrr
        exact hrr)
      obtain ⟨⟨m4, v4⟩, hm4⟩ : ∃ q, m3.create nmT = q := ⟨_, rfl⟩
      have hc4 := rs_create HT3.out HG3.out (by omega) nmT
      rw [hm4] at hc4
      have HC4 := Lib.hid hc4
      have HM4 := Lib.hid hm4
      clear hc4 hm4
      go_wp2_with (fail)
      refine HC4.out.mono ?_
      rintro e w4 ⟨rfl, ⟨x4, ht4, hg4⟩, hs4⟩
      have HB4 := Lib.hid (And.intro (HB3.out.1.same (hs4.same _ HB3.out.1.lt fun e => e.2 (.inr rfl))) (HB3.out.2.trans hs4))
      have HT4 := Lib.hid ht4
      have HG4 := Lib.hid hg4
      clear ht4 hg4 hs4
      dsimp only
      by_cases hv4 : v4 = 0
      rotate_left 1
      · have hvb4 : (v4 == 0) = false := by rw [beq_eq_false_iff_ne]; exact hv4
        have hrr := HRES.out
        rw [seqP_ko _ _ _ (by rw [HM4.out]; exact hv4), HM4.out] at hrr
        subst hrr
        have HV4 := Lib.hid hv4
        clear hv4 HRES
        go_wp2_with (fail)
        go_ret
        exact ⟨rfl, ⟨_, HT4.out.less fun k hk => .inl hk, HG4.out.mono (by omega)⟩, (Stays.grows HGA.out).trans (HB4.out.2.wider fun k _ hk => ⟨hk.1, fun e => hk.2 (.inl e)⟩)⟩
      subst hv4
      replace HRES := Lib.hid (show seqP _ m4 = res from by
        have hrr := HRES.out
        rw [seqP_ok _ _ _ (by rw [HM4.out]), HM4.out] at hrr
        exact hrr)
      have hpu := HPUT.out w4 HT4.out.low
      have k0 := HB4.out.1.cell 0
      have k1 := HB4.out.1.cell 1
      simp only [List.getElem?_toArray, List.getElem?_cons_zero, List.getElem?_cons_succ] at k0 k1
      have HPP := Lib.hid hpu
      clear hpu
      go_wp2_with (fail)
      refine HPP.out.mono ?_
      rintro e w5 ⟨A5, k5, c5, rfl, ho5, hg5⟩
      have hT5 := HT4.out.grow hg5
      have HB5 := Lib.hid (And.intro (hg5.whole HB4.out.1) (HB4.out.2.trans (Stays.grows hg5)))
      clear k0 k1
      have HPL := HPL0
      have hrlt : r < w4.heap.size := by obtain ⟨ro, fv, nv, kv, pv, k1⟩ := HT4.out.rf; exact k1.top.lt
      have hap := rs_append hT5 HG4.out (by omega) nmT (Sl.owned ho5) (own_block ho5 hrlt) (by have := (Sl.owned ho5).len; have := HPL.out; omega)
      have HAP := Lib.hid hap
      obtain ⟨⟨m6, v6⟩, hm6⟩ : ∃ q, m4.append nmT pm = q := ⟨_, rfl⟩
      rw [hm6] at HAP
      have HM6 := Lib.hid hm6
      clear hap hm6 ho5 hg5 hT5 hrlt HPP
      go_wp2_with (fail)
      refine HAP.out.mono ?_
      rintro e w6 ⟨rfl, ⟨x6, ht6, hg6⟩, hs6⟩
      have HB6 := Lib.hid (And.intro (HB5.out.1.same (hs6.same _ HB5.out.1.lt fun e => e.2 (.inr rfl))) (HB5.out.2.trans hs6))
      have HT6 := Lib.hid ht6
      have HG6 := Lib.hid (hg6.mono (show K + 1 + 1 + pm.length ≤ K + 17 + 4 * n by have := HPL.out; omega))
      clear ht6 hg6 hs6 HAP
      dsimp only
      by_cases hv6 : v6 = 0
      rotate_left 1
      · have hvb6 : (v6 == 0) = false := by rw [beq_eq_false_iff_ne]; exact hv6
        have hrr := HRES.out
        rw [seqP_ko _ _ _ (by rw [HM6.out]; exact hv6), HM6.out] at hrr
        subst hrr
        have HV6 := Lib.hid hv6
        clear hv6 HRES
        go_wp2_with (fail)
        go_ret
        exact ⟨rfl, ⟨_, HT6.out.less fun k hk => .inl hk, HG6.out.mono (by omega)⟩, (Stays.grows HGA.out).trans (HB6.out.2.wider fun k _ hk => ⟨hk.1, fun e => hk.2 (.inl e)⟩)⟩
      subst hv6
      replace HRES := Lib.hid (show seqP _ m6 = res from by
        have hrr := HRES.out
        rw [seqP_ok _ _ _ (by rw [HM6.out]), HM6.out] at hrr
        exact hrr)
      obtain ⟨⟨m7, v7⟩, hm7⟩ : ∃ q, m6.sync nmT = q := ⟨_, rfl⟩
      have hc7 := rs_sync HT6.out HG6.out (by omega) nmT
      rw [hm7] at hc7
      have HC7 := Lib.hid hc7
      have HM7 := Lib.hid hm7
      clear hc7 hm7
      go_wp2_with (fail)
      refine HC7.out.mono ?_
      rintro e w7 ⟨rfl, ⟨x7, ht7, hg7⟩, hs7⟩
      have HB7 := Lib.hid (And.intro (HB6.out.1.same (hs7.same _ HB6.out.1.lt fun e => e.2 (.inr rfl))) (HB6.out.2.trans hs7))
      have HT7 := Lib.hid ht7
      have HG7 := Lib.hid hg7
      clear ht7 hg7 hs7
      dsimp only
      by_cases hv7 : v7 = 0
      rotate_left 1
      · have hvb7 : (v7 == 0) = false := by rw [beq_eq_false_iff_ne]; exact hv7
        have hrr := HRES.out
        rw [seqP_ko _ _ _ (by rw [HM7.out]; exact hv7), HM7.out] at hrr
        subst hrr
        have HV7 := Lib.hid hv7
        clear hv7 HRES
        go_wp2_with (fail)
        go_ret
        exact ⟨rfl, ⟨_, HT7.out.less fun k hk => .inl hk, HG7.out.mono (by omega)⟩, (Stays.grows HGA.out).trans (HB7.out.2.wider fun k _ hk => ⟨hk.1, fun e => hk.2 (.inl e)⟩)⟩
      subst hv7
      replace HRES := Lib.hid (show seqP _ m7 = res from by
        have hrr := HRES.out
        rw [seqP_ok _ _ _ (by rw [HM7.out]), HM7.out] at hrr
        exact hrr)
      obtain ⟨⟨m8, v8⟩, hm8⟩ : ∃ q, m7.rename nmT nmM = q := ⟨_, rfl⟩
      have hc8 := rs_rename HT7.out HG7.out (by omega) nmT nmM
      rw [hm8] at hc8
      have HC8 := Lib.hid hc8
      have HM8 := Lib.hid hm8
      clear hc8 hm8
      go_wp2_with (fail)
      refine HC8.out.mono ?_
      rintro e w8 ⟨rfl, ⟨x8, ht8, hg8⟩, hs8⟩
      have HB8 := Lib.hid (And.intro (HB7.out.1.same (hs8.same _ HB7.out.1.lt fun e => e.2 (.inr rfl))) (HB7.out.2.trans hs8))
      have HT8 := Lib.hid ht8
      have HG8 := Lib.hid hg8
      clear ht8 hg8 hs8
      dsimp only
      by_cases hv8 : v8 = 0
      rotate_left 1
      · have hvb8 : (v8 == 0) = false := by rw [beq_eq_false_iff_ne]; exact hv8
        have hrr := HRES.out
        rw [seqP_ko _ _ _ (by rw [HM8.out]; exact hv8), HM8.out] at hrr
        subst hrr
        have HV8 := Lib.hid hv8
        clear hv8 HRES
        go_wp2_with (fail)
        go_ret
        exact ⟨rfl, ⟨_, HT8.out.less fun k hk => .inl hk, HG8.out.mono (by omega)⟩, (Stays.grows HGA.out).trans (HB8.out.2.wider fun k _ hk => ⟨hk.1, fun e => hk.2 (.inl e)⟩)⟩
      subst hv8
      replace HRES := Lib.hid (show seqP _ m8 = res from by
        have hrr := HRES.out
        rw [seqP_ok _ _ _ (by rw [HM8.out]), HM8.out] at hrr
        exact hrr)
      obtain ⟨⟨m9, v9⟩, hm9⟩ : ∃ q, m8.syncDir = q := ⟨_, rfl⟩
      have hc9 := rs_syncDir HT8.out HG8.out (by omega)
      rw [hm9] at hc9
      have HC9 := Lib.hid hc9
      have HM9 := Lib.hid hm9
      clear hc9 hm9
      go_wp2_with (fail)
      refine HC9.out.mono ?_
      rintro e w9 ⟨rfl, ⟨x9, ht9, hg9⟩, hs9⟩
      have HB9 := Lib.hid (And.intro (HB8.out.1.same (hs9.same _ HB8.out.1.lt fun e => e.2 (.inr rfl))) (HB8.out.2.trans hs9))
      have HT9 := Lib.hid ht9
      have HG9 := Lib.hid hg9
      clear ht9 hg9 hs9
      dsimp only
      obtain rfl : res = (m9, v9) := by
        have hrr := HRES.out
        by_cases hv : v9 = 0
        · rw [seqP_ok _ _ _ (by rw [HM9.out]; exact hv), HM9.out, hv] at hrr
          rw [hv]; exact hrr.symm
        · rw [seqP_ko _ _ _ (by rw [HM9.out]; exact hv), HM9.out] at hrr
          exact hrr.symm
      go_wp2_with (fail)
      go_ret
      exact ⟨rfl, ⟨_, HT9.out.less fun k hk => .inl hk, HG9.out.mono (by omega)⟩, (Stays.grows HGA.out).trans (HB9.out.2.wider fun k _ hk => ⟨hk.1, fun e => hk.2 (.inl e)⟩)⟩
end
end Go.Proofs.YtdkpbphgaenlnaaGreat

/-
  The walk of the answer's Load.
-/
namespace Go.Proofs.YtdkpbphgaenlnaaGreat
open Go.RowKit
set_option linter.unusedVariables false
set_option linter.unusedSimpArgs false
theorem rload_eq (m : Dk) : loadP m = if m.down = true then (Mn.none, false, (82 : Int)) else if (m.size nmM).2 = false then (Mn.none, false, 0) else match getM ((m.read nmM 0 (m.size nmM).1).1.getD []) with
    | some x => (x, true, 0)
    | none => (Mn.none, false, 22) := by
  unfold loadP
  cases hd : m.down with
  | true =>
    have : ∀ v, m.read nmM 0 v = (none, 82) := fun v => by unfold Dk.read; rw [hd]; rfl
    rw [this]
    rfl
  | false =>
    cases hf : Dir.find nmM m.names with
    | none =>
      have h1 : m.size nmM = (0, false) := by unfold Dk.size; rw [hf]
      have h2 : ∀ v, m.read nmM 0 v = (none, 3) := fun v => by unfold Dk.read; rw [hd, hf]; rfl
      rw [h1, h2]
      rfl
    | some f =>
      have h1 : m.size nmM = (((m.files f).bytes.length : Int), true) := by unfold Dk.size; rw [hf]
      have h2 : (m.read nmM 0 ((m.files f).bytes.length : Int)).2 = 0 := by
        unfold Dk.read
        rw [hd, hf]
        dsimp only
        rw [if_neg (by decide), if_neg (by omega)]
      rw [h1]
      dsimp only
      rw [h2]
      rfl
section
variable {d r K : Nat} {w0 w : World} {out : Nat → Prop} {m mm : Dk} {x : Rf}
theorem rs_down (h : Two w0.heap.size w0 w d r out mm x) (hG : G2 K m x) : Calls Tryz.prog 76 #[.pointer (some ⟨r, 0, none⟩)] w fun e w' => e = .returned (.bool m.down) ∧ w = w' := by
  obtain ⟨ro, fv, nv, kv, pv, h1⟩ := h.rf
  rw [← hG.gl.down]
  exact rdown_any w h1
theorem rs_read (h : Two w0.heap.size w0 w d r out mm x) (hG : G2 K m x) (hK : K ≤ 100000) {n : Nm} (y k : Int) (hy : -9223372036854775808 ≤ y ∧ y ≤ 9223372036854775807) (hk : -9223372036854775808 ≤ k ∧ k ≤ 9223372036854775807) {v : Option (List UInt8) × Int} (hv : m.read n y k = v) :
    Calls Tryz.prog 77 #[.pointer (some ⟨r, 0, none⟩), .string ⟨n.toArray⟩, .int .i64 y, .int .i64 k] w fun e w' => GotTo w v e w' := by
  obtain ⟨ro, fv, nv, kv, pv, h1⟩ := h.rf
  have := rread_any w n y k h1 (hG.fit hK) hy hk
  rw [hG.reads n y k hy hk hK, hv] at this
  exact this.mono fun e w' h => h.got
set_option maxRecDepth 100000 in
set_option maxHeartbeats 8000000 in
theorem rload_any (w : World) (h : Two w0.heap.size w0 w d r out mm x) (hG : G2 K m x) (hK : K ≤ 100000) :
    Calls Tryz.prog 22 #[.pointer (some ⟨r, 0, none⟩)] w (MnTo3 w (loadP m)) := by
  have hm := Whole.made w 31 #[.slice none 0 0, .int .i64 0]
  have hg := grows_alloc w (.cells #[.slice none 0 0, .int .i64 0] 31)
  obtain ⟨w1, hw1⟩ : ∃ x, w.alloc (.cells #[.slice none 0 0, .int .i64 0] 31) = x := ⟨_, rfl⟩
  rw [hw1] at hm hg
  have HG := Lib.hid hg
  have HM := Lib.hid hm
  have HS1 := Lib.hid (show w1.heap.size = w.heap.size + 1 by rw [← hw1, World.size_alloc])
  have HD := Lib.hid (h.grow hg)
  obtain ⟨⟨sv, sb⟩, hsz⟩ : ∃ q, m.size nmM = q := ⟨_, rfl⟩
  have hsv : 0 ≤ sv ∧ sv ≤ 100000 := by have := hG.sized nmM; rw [hsz] at this; dsimp only at this; omega
  have HSZ := Lib.hid (rs_size HD.out hG hK hsz)
  have HDN := Lib.hid (fun w' (hg : Grows w1 w') => rs_down (HD.out.grow hg) hG)
  obtain ⟨⟨rb, re⟩, hrd⟩ : ∃ q, m.read nmM 0 sv = q := ⟨_, rfl⟩
  have hrlen := fun h0 => read_len (m := m) (n := nmM) (x := 0) (k := sv) h0
  rw [hrd] at hrlen
  have hrr := fun w' (hg : Grows w1 w') => rs_read (HD.out.grow hg) hG hK 0 sv (by omega) (by omega) hrd
  obtain ⟨res, hr⟩ : ∃ res, loadP m = res := ⟨_, rfl⟩
  rw [hr]
  rw [rload_eq, hsz] at hr
  dsimp only at hr
  rw [hrd] at hr
  dsimp only at hr hrlen
  obtain ⟨bs, hbs⟩ : ∃ q, rb.getD [] = q := ⟨_, rfl⟩
  unfold GotTo at hrr
  dsimp only at hrr
  rw [hbs] at hr hrr
  have hbl : bs.length ≤ 100000 := by
    rw [← hbs]
    by_cases h0 : re = 0
    · obtain ⟨b, e, hl⟩ := hrlen h0
      rw [e]
      show b.length ≤ 100000
      omega
    · have : rb = none := by
        unfold Dk.read at hrd
        split at hrd
        · injection hrd with h1 h2; exact h1.symm
        · split at hrd
          · injection hrd with h1 h2; exact h1.symm
          · split at hrd
            · injection hrd with h1 h2; exact h1.symm
            · injection hrd with h1 h2; exact absurd h2.symm h0
      rw [this]
      exact Nat.zero_le _
  have HRR := Lib.hid hrr
  have HBL := Lib.hid hbl
  have HRES := Lib.hid hr
  obtain ⟨dn, hdn⟩ : ∃ q, m.down = q := ⟨_, rfl⟩
  rw [hdn] at HDN HRES
  clear h hm hg hsz hrd hrlen hbs hrr hr hdn hbl hG
  go_enter Tryz.func22, Tryz.ntmps22
  go_wp2_with (fail)
  refine HSZ.out.mono ?_
  rintro e w2 ⟨rfl, hg2⟩
  have HG2 := Lib.hid hg2
  have hm2 := hg2.whole HM.out
  have HM2 := Lib.hid hm2
  have j0 := hm2.free 0
  have j1 := hm2.free 1
  have j2 := hm2.cell 0
  have j3 := hm2.cell 1
  simp only [List.getElem?_toArray, List.getElem?_cons_zero, List.getElem?_cons_succ] at j0 j1 j2 j3
  clear hg2 hm2 HSZ
  go_wp2_with (fail)
  refine (HDN.out w2 HG2.out).mono ?_
  rintro e w3 ⟨rfl, rfl⟩
  cases dn with
  | true =>
    have hr := HRES.out
    rw [if_pos rfl] at hr
    subst hr
    go_wp2_with (fail)
    refine bodyPost_ret (results_man3 rfl _ _ w.heap.size _ _ _ (.bool false) (.int .i64 82) rfl rfl rfl (show Whole _ _ _ #[.slice none 0 0, .int .i64 0] from (HM2.out.put 0 _).put 1 _)) rfl ?_
    exact MnTo3.none 82 ((Below.setCell (p := ⟨w.heap.size, 0, none⟩) (HG.out.trans HG2.out) (Nat.le_refl _) _).setCell (p := ⟨w.heap.size, 1, none⟩) (Nat.le_refl _) _)
  | false =>
  cases sb with
  | false =>
    have hr := HRES.out
    rw [if_neg (by decide), if_pos rfl] at hr
    subst hr
    go_wp2_with (fail)
    refine bodyPost_ret (results_man3 rfl _ _ w.heap.size _ _ _ (.bool false) (.int .i64 0) rfl rfl rfl (show Whole _ _ _ #[.slice none 0 0, .int .i64 0] from (HM2.out.put 0 _).put 1 _)) rfl ?_
    exact MnTo3.none 0 ((Below.setCell (p := ⟨w.heap.size, 0, none⟩) (HG.out.trans HG2.out) (Nat.le_refl _) _).setCell (p := ⟨w.heap.size, 1, none⟩) (Nat.le_refl _) _)
  | true =>
  have hr := HRES.out
  rw [if_neg (by decide), if_neg (by decide)] at hr
  go_wp2_with (fail)
  refine (HRR.out w2 HG2.out).mono ?_
  rintro e w4 ⟨A4, c4, rfl, hs4, hg4⟩
  have HS4 := Lib.hid hs4
  have HG4 := Lib.hid (Grows.trans HG2.out hg4)
  have hm4 := HG4.out.whole HM.out
  have HM4 := Lib.hid hm4
  have k0 := hm4.free 0
  have k1 := hm4.free 1
  have k2 := hm4.cell 0
  have k3 := hm4.cell 1
  simp only [List.getElem?_toArray, List.getElem?_cons_zero, List.getElem?_cons_succ] at k0 k1 k2 k3
  clear hs4 hg4 hm4 hw1 j0 j1 j2 j3
  have HT := Lib.hid (mrefGet_any w4 A4 bs.length c4 bs HS4.out (by have := HBL.out; omega))
  obtain ⟨nb, hnb⟩ : ∃ nb, bs.length = nb := ⟨_, rfl⟩
  rw [hnb] at HT ⊢
  obtain ⟨t, ht⟩ : ∃ t, getM bs = t := ⟨_, rfl⟩
  rw [ht] at HT hr
  have HR := Lib.hid hr
  clear hr ht hnb
  go_wp2_with (fail)
  refine HT.out.mono ?_
  rintro e w5 ⟨A5, m5, c5, rfl, ho5, hg5⟩
  obtain ⟨x5, hx5⟩ : ∃ x, (mnOf t).next = x := ⟨_, rfl⟩
  obtain ⟨b5, hb5⟩ : ∃ x, t.isSome = x := ⟨_, rfl⟩
  rw [hx5, hb5]
  have hg6 := grows_alloc w5 (.cells #[.slice A5 m5 c5, .int .i64 x5] 31)
  have hm6 := Whole.made w5 31 #[.slice A5 m5 c5, .int .i64 x5]
  have hm7 := (Grows.trans (hg5 : Grows w4 w5) hg6).whole HM4.out
  have q0 := hm7.free 0
  have q1 := hm7.free 1
  have q2 := hm7.cell 0
  have q3 := hm7.cell 1
  have q4 := hm6.cell 0
  have q5 := hm6.cell 1
  simp only [List.getElem?_toArray, List.getElem?_cons_zero, List.getElem?_cons_succ] at q0 q1 q2 q3 q4 q5
  have HG7 := Lib.hid (show Grows w (w5.alloc (.cells #[.slice A5 m5 c5, .int .i64 x5] 31)) from HG.out.trans (HG4.out.trans (Grows.trans hg5 hg6)))
  have HO7 := Lib.hid (owned_grow ho5 hg6)
  have HM7 := Lib.hid hm7
  have HX := Lib.hid (And.intro hx5 hb5)
  clear ho5 hg5 hx5 hb5 hg6 hm6 hm7 k0 k1 k2 k3
  cases b5 with
  | false =>
    obtain rfl : t = none := by have := HX.out.2; cases t with | none => rfl | some _ => cases this
    have hr := HR.out
    dsimp only at hr
    subst hr
    go_wp2_with (fail)
    refine bodyPost_ret (results_man3 rfl _ _ w.heap.size _ _ _ (.bool false) (.int .i64 22) rfl rfl rfl (show Whole _ _ _ #[.slice none 0 0, .int .i64 0] from (HM7.out.put 0 _).put 1 _)) rfl ?_
    exact MnTo3.none 22 ((Below.setCell (p := ⟨w.heap.size, 0, none⟩) HG7.out (Nat.le_refl _) _).setCell (p := ⟨w.heap.size, 1, none⟩) (Nat.le_refl _) _)
  | true =>
    obtain ⟨x, rfl⟩ : ∃ m, t = some m := by have := HX.out.2; cases t with | none => cases this | some m => exact ⟨m, rfl⟩
    have hr := HR.out
    dsimp only at hr
    subst hr
    obtain ⟨w6, hw6⟩ : ∃ w6, w5.alloc (.cells #[.slice A5 m5 c5, .int .i64 x5] 31) = w6 := ⟨_, rfl⟩
    rw [hw6] at HG7 HO7 HM7 q0 q1 q2 q3 q4 q5
    have HNX := Lib.hid (show x.next = x5 from HX.out.1)
    go_wp2_with (fail)
    refine bodyPost_ret (results_man3 rfl _ _ w.heap.size _ _ _ (.bool true) (.int .i64 0) rfl rfl rfl (show Whole _ _ _ #[.slice A5 m5 c5, .int .i64 x5] from (HM7.out.put 0 _).put 1 _)) rfl ?_
    have hsp : Spares (fun g => g = w.heap.size) w6 ((w6.setCell ⟨w.heap.size, 0, none⟩ (.slice A5 m5 c5)).setCell ⟨w.heap.size, 1, none⟩ (.int .i64 x5)) := ((Spares.refl (fun g => g = w.heap.size) w6).setCell (p := ⟨w.heap.size, 0, none⟩) rfl _).setCell (p := ⟨w.heap.size, 1, none⟩) rfl _
    have hle : w.heap.size < w4.heap.size := by have h1 := HS1.out; have h2 := HG4.out.size; omega
    refine ⟨A5, m5, c5, by rw [HNX.out], owned_from (row_sameM HO7.out fun g hg => hsp.same g (HO7.out.lt g hg).2 (by have := (HO7.out.lt g hg).1; omega)) (Nat.le_of_lt hle), Below.trans HG7.out (hsp.below HG7.out.size fun g hg e => by omega)⟩
end
end Go.Proofs.YtdkpbphgaenlnaaGreat

