import Derived.Test.YtlldcogkcjnejaaGreatMG09
import Derived.Test.YtlldcogkcjnejaaGreatMG06
import Derived.Laws.IdiomStrings
import Derived.Test.YtlldcogkcjnejaaGreatMG00
import Derived.Laws.AppendOwn
import Derived.Maps.AppendAt
import Derived.OwnWalkIn
set_option linter.unusedVariables false
set_option linter.unusedSimpArgs false
namespace Go.Proofs.YtlldcogkcjnejaaGreat
open Go.Lib (hid)
open Go.RowKit
attribute [local irreducible] Go.wpQuiet
structure RfFit (m : Rf) : Prop where
 nums : (-1 ≤ m.cut ∧ m.cut ≤ 9223372036854775807) ∧ -1 ≤ m.fail ∧ m.fail ≤ 9223372036854775807
 files : m.files.length ≤ 100000
 names : m.names.length ≤ 100000
 kept : m.kept.length ≤ 100000
 pend : m.pend.length ≤ 100000
 idx : ∀ p ∈ m.names, p.2 < m.files.length
 bytes : ∀ f ∈ m.files, f.bytes.length ≤ 100000 ∧ f.kept ≤ f.bytes.length
section
variable {w w' : World} {r : Nat} {own : Nat → Prop} {m m' : Rf} {fv nv kv pv : Value}
theorem Zbh {l : List Fl} {i : Nat} {v : Fl} (h : l[i]? = some v) : l.getD i ⟨[], 0⟩ = v := by rw [List.getD_eq_getElem?_getD, h]; rfl
theorem RfAt.found (h : RfAt w r own m fv nv kv pv) (hF : RfFit m) {i : Nat} {n : Nm} {f : Nat} (hi : m.names[i]? = some (n, f)) :
 ∃ gn cn gf cf v, nv = .slice (some ⟨gn, 0, none⟩) m.names.length cn ∧ fv = .slice (some ⟨gf, 0, none⟩) m.files.length cf ∧ m.files[f]? = some v ∧ i < m.names.length ∧ f < m.files.length ∧
  ∀ w', Grows w w' → w'.cell? ⟨r, 1, none⟩ = some fv ∧ w'.cell? ⟨r, 2, none⟩ = some nv ∧ w'.cell? ⟨gn, i * 2 + 1, none⟩ = some (.int .i64 (f : Int)) ∧ w'.cell? ⟨gf, f * 2, none⟩ = some (.string ⟨v.bytes.toArray⟩) ∧ w'.cell? ⟨gf, f * 2 + 1, none⟩ = some (.int .i64 (v.kept : Int)) := by
 have hil : i < m.names.length := (List.getElem?_eq_some_iff.1 hi).1
 have hfl : f < m.files.length := hF.idx (n, f) (List.mem_of_getElem? hi)
 obtain ⟨A, cn, hA, h1⟩ := h.namesRw
 obtain ⟨B, cf, hB, h2⟩ := h.filesRw
 obtain ⟨gn, rfl, hgn, c1⟩ := h1.spot i _ hi
 obtain ⟨gf, rfl, hgf, c2⟩ := h2.spot f _ (List.getElem?_eq_getElem hfl)
 refine ⟨gn, cn, gf, cf, m.files[f], hA, hB, List.getElem?_eq_getElem hfl, hil, hfl, fun w' hg => ⟨?_, ?_, ?_, ?_, ?_⟩⟩
 ·rw [hg.cell (show (⟨r, 1, none⟩ : Addr).block < w.heap.size from h.top.lt)]; exact h.cell 1
 ·rw [hg.cell (show (⟨r, 2, none⟩ : Addr).block < w.heap.size from h.top.lt)]; exact h.cell 2
 ·rw [hg.cell (show (⟨gn, i * 2 + 1, none⟩ : Addr).block < w.heap.size from hgn)]; exact c1 1 (by omega)
 ·rw [hg.cell (show (⟨gf, f * 2, none⟩ : Addr).block < w.heap.size from hgf)]; exact c2 0 (by omega)
 ·rw [hg.cell (show (⟨gf, f * 2 + 1, none⟩ : Addr).block < w.heap.size from hgf)]; exact c2 1 (by omega)
set_option maxHeartbeats 4000000 in
set_option maxRecDepth 100000 in
theorem Zlw (w : World) (n : Nm) (h : RfAt w r own m fv nv kv pv) (hF : RfFit m) : Calls Tryz.prog 40 #[.pointer (some ⟨r, 0, none⟩), .string ⟨n.toArray⟩] w fun e w' =>
 e = .returned (.tuple #[.int .i64 (m.size n).1, .bool (m.size n).2]) ∧ Grows w w' := by
 obtain ⟨A, c, hA, hrw⟩ := h.namesRw
 have c2 : w.cell? ⟨r, 2, none⟩ = some (.slice A m.names.length c) := by rw [← hA]; exact h.cell 2
 have HFI := hid (Yu w (c := c) n hrw (by have := hF.names; omega))
 have H := hid h
 rcases Jm (n := n) (l := m.names) with ⟨hf, hx⟩ | ⟨i, f, hf, hx, hi⟩
 ·have hs : m.size n = (0, false) := by unfold Rf.size; rw [hf]
  rw [hs]
  rw [hx] at HFI
  clear h hA hrw hf hx hs hF
  go_enter Tryz.func40, Tryz.ntmps40
  go_wp2_with (fail)
  refine HFI.out.mono ?_
  rintro e w1 ⟨rfl, rfl⟩
  go_wp2_with (fail)
  go_ret2
  exact ⟨rfl, Grows.refl _⟩
 ·obtain ⟨gn, cn, gf, cf, v, hn, hfv, hv, hil, hfl, hc⟩ := h.found hF hi
  have hs : m.size n = (((v.bytes.length : Nat) : Int), true) := by unfold Rf.size Rf.len; rw [hf]; dsimp only; rw [Zbh hv]
  rw [hs]
  rw [hx] at HFI
  have HC := hid hc
  rw [hA] at hn
  injection hn with hn1 _ hn2
  subst hn1 hn2
  rw [hfv, hA] at HC
  have hiI : (i : Int) < (m.names.length : Int) := by omega
  have hfI : (f : Int) < (m.files.length : Int) := by omega
  have hi0 : ¬ ((i : Int) < 0) := by omega
  have hi1 : (0 : Int) ≤ (i : Int) := by omega
  have hf0 : (0 : Int) ≤ (f : Int) := by omega
  generalize m.names.length = nl at *
  generalize m.files.length = fl at *
  obtain ⟨s, hsb⟩ : ∃ s : ByteArray, (⟨v.bytes.toArray⟩ : ByteArray) = s := ⟨_, rfl⟩
  have hss : s.size = v.bytes.length := by rw [← hsb]; simp [ByteArray.size]
  rw [hsb] at HC
  generalize v.bytes.length = vl at *
  clear h hA hrw hf hx hs hF hi hv hc hfv hil hfl hsb
  go_enter Tryz.func40, Tryz.ntmps40
  go_wp2_with (fail)
  refine HFI.out.mono ?_
  rintro e w1 ⟨rfl, rfl⟩
  go_wp2_with (fail)
  refine Zo mixed (by kernel_rfl) ?_
  iterate 18
   (refine q_op' (v := ?_) (a' := ?_) (by rfl) ?_ ?_ ?_
    rotate_left 2
    ·intro w' hC
     obtain ⟨z1, z2, z3, z4, z5⟩ := HC.out w' hC
     clear hC
     go_simp
     try with_reducible rfl
    ·simp only [Pu]
     try rfl)
  refine wpQuiet_nil ?_
  intro w5 hC
  have HCw5 := hid hC
  clear hC
  go_wp2_with (fail)
  go_ret2
  exact ⟨rfl, HCw5.out⟩
set_option maxHeartbeats 4000000 in
set_option maxRecDepth 100000 in
theorem Zg1 (w : World) (h : RfAt w r own m fv nv kv pv) (hF : RfFit m) : Calls Tryz.prog 12 #[.pointer (some ⟨r, 0, none⟩)] w fun e w' => e = .returned (.int .i64 (m.used : Nat)) ∧ Grows w w' := by
 obtain ⟨A, c, hA, hrw⟩ := h.namesRw
 have HA := hid (And.intro hA hrw.len)
 have H := hid h
 have HF := hid hF
 have hnl := hF.names
 clear h hF hrw hA
 have hub : ∀ j, ((m.names.take j).map fun p => m.len p.2).sum ≤ j * 100000 := fun j => by
  have h1 := S_le (ln := m.len) (K := 100000) (l := m.names.take j) fun i hi => by
   obtain ⟨p, hp, rfl⟩ := List.mem_map.1 hi
   have h2 := HF.out.idx p (List.mem_of_mem_take hp)
   unfold Rf.len
   rw [List.getD_eq_getElem?_getD, List.getElem?_eq_getElem h2]
   exact (HF.out.bytes _ (List.getElem_mem h2)).1
  have h3 : (m.names.take j).length * 100000 ≤ j * 100000 := Nat.mul_le_mul_right _ (by rw [List.length_take]; omega)
  exact Nat.le_trans h1 h3
 have HUB := hid hub
 clear hub
 obtain ⟨nl, hnle⟩ : ∃ nl, m.names.length = nl := ⟨_, rfl⟩
 have HNL := hid hnle
 rw [hnle] at hnl
 clear hnle
 go_enter Tryz.func12, Tryz.ntmps12
 go_wp2_with (fail)
 go_loopw [3, 4] (fun vs vi wr => ∃ (j s : Nat), j ≤ nl ∧ s ≤ j * 100000 ∧ vs = .int .i64 (s : Nat) ∧ vi = .int .i64 (j : Nat) ∧ Hid (s = ((m.names.take j).map fun p => m.len p.2).sum) ∧ Hid (Grows w wr)) (fun _ i _ => nl - (intOf i).toNat)
 case atStart => exact ⟨0, 0, by omega, by omega, rfl, rfl, hid rfl, hid (Grows.refl _)⟩
 case round =>
  obtain ⟨j, s, hj, hsj, rfl, rfl, HS, HG⟩ := hrel
  have c2 : wr.cell? ⟨r, 2, none⟩ = some (.slice A nl c) := by
   rw [HG.out.cell (show (⟨r, 2, none⟩ : Addr).block < w.heap.size from H.out.top.lt), ← HNL.out, ← HA.out.1]; exact H.out.cell 2
  by_cases hlt : j < nl
  ·obtain ⟨p, hp⟩ : ∃ p, m.names[j]? = some p := ⟨_, List.getElem?_eq_getElem (by rw [HNL.out]; exact hlt)⟩
   obtain ⟨gn, cn, gf, cf, v, hn, hfv, hv, hil, hfl, hc⟩ := H.out.found HF.out (n := p.1) (f := p.2) hp
   have HC := hid (fun w' hg => hc w' (HG.out.trans hg))
   rw [HA.out.1, HNL.out] at hn
   injection hn with hn1 _ hn2
   subst hn1 hn2
   rw [hfv, HA.out.1, HNL.out] at HC
   have hjI : (j : Int) < (nl : Int) := by omega
   have hj0 : (0 : Int) ≤ (j : Int) := by omega
   have hfI : (p.2 : Int) < (m.files.length : Int) := by omega
   have hf0 : (0 : Int) ≤ (p.2 : Int) := by omega
   obtain ⟨sb, hsb⟩ : ∃ s : ByteArray, (⟨v.bytes.toArray⟩ : ByteArray) = s := ⟨_, rfl⟩
   obtain ⟨vl, hvl⟩ : ∃ vl, v.bytes.length = vl := ⟨_, rfl⟩
   have hss : sb.size = vl := by rw [← hsb, ← hvl]; simp [ByteArray.size]
   have hlen : m.len p.2 = vl := by unfold Rf.len; rw [Zbh hv, hvl]
   have hvb : vl ≤ 100000 := by rw [← hvl]; exact (HF.out.bytes v (List.mem_of_getElem? hv)).1
   rw [hsb] at HC
   generalize m.files.length = fl at *
   obtain ⟨pf, hpf⟩ : ∃ f, p.2 = f := ⟨_, rfl⟩
   rw [hpf] at HC hfI hf0
   have HN := hid (show s + vl = ((m.names.take (j + 1)).map fun p => m.len p.2).sum by
    rw [List.take_add_one, hp, List.map_append, List.sum_append, ← HS.out]
    simp [hlen])
   have hsv : IntKind.i64.wrap ((s : Int) + (vl : Int)) = ((s + vl : Nat) : Int) := by rw [IntWalk.i64_in _ (by omega)]; omega
   have hwj : IntKind.i64.wrap ((j : Int) + 1) = (j : Int) + 1 := IntWalk.i64_in _ (by omega)
   have HSB := hid (show s + vl ≤ (j + 1) * 100000 by omega)
   clear hp hfv hv hil hfl hc hsb hvl hlen hpf hvb
   go_wp2_with (fail)
   refine Zo mixed (by kernel_rfl) ?_
   iterate 19
    (refine q_op' (v := ?_) (a' := ?_) (by rfl) ?_ ?_ ?_
     rotate_left 2
     ·intro w' hC
      obtain ⟨z1, z2, z3, z4, z5⟩ := HC.out w' hC
      clear hC
      go_simp
      try with_reducible rfl
     ·simp only [Pu]
      try rfl)
   refine wpQuiet_nil ?_
   intro w5 hC
   have HCw5 := hid hC
   clear hC
   go_wp2_with (fail)
   exact ⟨⟨j + 1, s + vl, hlt, HSB.out, rfl, rfl, HN, hid (HG.out.trans HCw5.out)⟩, by simp only [intOf]; omega⟩
  ·obtain rfl : j = nl := by omega
   have HE := hid (show s = m.used by
    have h1 := HS.out
    rw [List.take_of_length_le (by rw [HNL.out]; exact Nat.le_refl _)] at h1
    exact h1)
   go_wp2_with (fail)
   go_ret
   rw [HE.out]
   exact ⟨rfl, HG.out⟩
end
end Go.Proofs.YtlldcogkcjnejaaGreat
namespace Go.Proofs.YtlldcogkcjnejaaGreat
open Go.Lib (hid)
open Go.RowKit
attribute [local irreducible] Go.wpQuiet
theorem Zaz (L : List UInt8) : (⟨L.toArray⟩ : ByteArray).size = L.length := by simp [ByteArray.size]
theorem Zj8 (w : World) (L : List UInt8) : ∃ c w', (convert 9 31 (.string ⟨L.toArray⟩)).run Tryz.prog w = .ok (.slice (some ⟨w.heap.size, 0, none⟩) L.length c) w' ∧ Sl w' (some ⟨w.heap.size, 0, none⟩) L.length c L ∧ Grows w w' := by
 refine ⟨_, _, by rw [run_bytes_of_string w 9 31 5 ⟨L.toArray⟩ Tryz.underlying9 Tryz.underlying31 Tryz.underlying5, Zaz], ?_, ?_⟩
 ·refine ⟨?_, ?_, fun h => by cases h⟩
  ·refine ⟨by simp, fun k v hk => ⟨_, rfl, by simp, ?_⟩⟩
   have hkl : k < L.length := by
    have := (List.getElem?_eq_some_iff.1 hk).1
    simpa using this
   rw [show (⟨w.heap.size, 0, none⟩ : Addr).add k = ⟨w.heap.size, k, none⟩ by unfold Addr.add; split <;> simp_all]
   rw [cell_of_row _ w.heap.size k _ _ _ (World.alloc_heap_new w.drew _)]
   unfold bytesRow
   rw [Array.getElem?_append_left (by simp [Zaz]; exact hkl)]
   rw [← hk]
   simp
   rfl
  ·exact Zaz L ▸ grownCap_ge w _ _ _
 ·exact Grows.trans (Ze w) (Zb _ _)
theorem Zor (D : List UInt8) (x k : Nat) (h : x + k ≤ D.length) : (⟨D.toArray⟩ : ByteArray).extract x (x + k) = ⟨((D.drop x).take k).toArray⟩ := by
 apply ByteArray.ext
 simp only [ByteArray.data_extract, List.extract_toArray]
 rw [List.extract_eq_take_drop]
 simp
section
variable {w w' : World} {r : Nat} {own : Nat → Prop} {m m' : Rf} {fv nv kv pv : Value}
def Zft (w : World) (r : Option (List UInt8) × Int) (e : Ending) (w' : World) : Prop :=
 match r.1 with
 | none => e = .returned (.tuple #[.slice none 0 0, .int .i64 r.2]) ∧ Grows w w'
 | some bs => ∃ A c, e = .returned (.tuple #[.slice A bs.length c, .int .i64 r.2]) ∧ Sl w' A bs.length c bs ∧ Grows w w'
set_option maxHeartbeats 4000000 in
set_option maxRecDepth 100000 in
theorem Zlv (w : World) (n : Nm) (x k : Int) (h : RfAt w r own m fv nv kv pv) (hF : RfFit m) (hx : -9223372036854775808 ≤ x ∧ x ≤ 9223372036854775807) (hk : -9223372036854775808 ≤ k ∧ k ≤ 9223372036854775807) :
 Calls Tryz.prog 63 #[.pointer (some ⟨r, 0, none⟩), .string ⟨n.toArray⟩, .int .i64 x, .int .i64 k] w fun e w' => Zft w (m.read n x k) e w' := by
 have c8 : w.cell? ⟨r, 8, none⟩ = some (.bool m.down) := h.cell 8
 obtain ⟨A, c, hA, hrw⟩ := h.namesRw
 have c2 : w.cell? ⟨r, 2, none⟩ = some (.slice A m.names.length c) := by rw [← hA]; exact h.cell 2
 have HFI := hid (Yu w (c := c) n hrw (by have := hF.names; omega))
 unfold Rf.read
 cases hd : m.down with
 | true =>
   rw [hd] at c8
   rw [if_pos rfl]
   clear h hF hA hrw c2 HFI hd hx hk
   go_enter Tryz.func63, Tryz.ntmps63
   go_wp2
   go_ret2
   exact ⟨rfl, Grows.refl _⟩
 | false =>
 rw [hd] at c8
 rw [if_neg (by decide)]
 rcases Jm (n := n) (l := m.names) with ⟨hf, hx'⟩ | ⟨i, f, hf, hx', hi⟩
 ·rw [hf]
  dsimp only
  rw [hx'] at HFI
  clear h hA hrw hf hx' hF hd hx hk
  go_enter Tryz.func63, Tryz.ntmps63
  go_wp2_with (fail)
  refine HFI.out.mono ?_
  rintro e w1 ⟨rfl, rfl⟩
  go_wp2_with (fail)
  go_ret2
  exact ⟨rfl, Grows.refl _⟩
 rw [hf]
 dsimp only
 obtain ⟨gn, cn, gf, cf, v, hn, hfv, hv, hil, hfl, hc⟩ := h.found hF hi
 rw [hx'] at HFI
 have HC := hid hc
 rw [hA] at hn
 injection hn with hn1 _ hn2
 subst hn1 hn2
 rw [hfv, hA] at HC
 have hvb := (hF.bytes v (List.mem_of_getElem? hv)).1
 have hml : m.len f = v.bytes.length := by unfold Rf.len; rw [Zbh hv]
 rw [hml, Zbh hv]
 have hiI : (i : Int) < (m.names.length : Int) := by omega
 have hfI : (f : Int) < (m.files.length : Int) := by omega
 have hi0 : ¬ ((i : Int) < 0) := by omega
 have hi1 : (0 : Int) ≤ (i : Int) := by omega
 have hf0 : (0 : Int) ≤ (f : Int) := by omega
 obtain ⟨bs, hbs⟩ : ∃ bs, v.bytes = bs := ⟨_, rfl⟩
 rw [hbs] at HC hvb ⊢
 obtain ⟨s, hsb⟩ : ∃ s : ByteArray, (⟨bs.toArray⟩ : ByteArray) = s := ⟨_, rfl⟩
 obtain ⟨vl, hvl⟩ : ∃ vl, bs.length = vl := ⟨_, rfl⟩
 have hss : s.size = vl := by rw [← hsb, ← hvl]; simp [ByteArray.size]
 rw [hsb] at HC
 rw [hvl] at hvb ⊢
 have HSB := hid (And.intro hsb hvl)
 generalize m.names.length = nl at *
 generalize m.files.length = fl at *
 have hsub : IntKind.i64.wrap ((vl : Int) - x) = (vl : Int) - x ∨ ¬ (0 ≤ x ∧ x ≤ vl) := by
  by_cases h : 0 ≤ x ∧ x ≤ vl
  ·exact .inl (IntWalk.i64_in _ (by omega))
  ·exact .inr h
 clear h hA hrw hf hx' hF hi hv hc hfv hil hfl hsb hd hml hbs hvl
 by_cases hb1 : x < 0
 ·rw [if_pos (.inl hb1)]
  clear hsub
  go_enter Tryz.func63, Tryz.ntmps63
  go_wp2_with (fail)
  refine HFI.out.mono ?_
  rintro e w1 ⟨rfl, rfl⟩
  go_wp2_with (fail)
  refine Zo mixed (by kernel_rfl) ?_
  iterate 16
   (refine q_op' (v := ?_) (a' := ?_) (by rfl) ?_ ?_ ?_
    rotate_left 2
    ·intro w' hC
     obtain ⟨z1, z2, z3, z4, z5⟩ := HC.out w' hC
     clear hC
     go_simp
     try with_reducible rfl
    ·simp only [Pu]
     try rfl)
  refine wpQuiet_nil ?_
  intro w5 hC
  have HCw5 := hid hC
  clear hC
  go_wp2_with (fail)
  go_ret2
  exact ⟨rfl, HCw5.out⟩
 by_cases hb2 : k < 0
 ·rw [if_pos (.inr (.inl hb2))]
  clear hsub
  go_enter Tryz.func63, Tryz.ntmps63
  go_wp2_with (fail)
  refine HFI.out.mono ?_
  rintro e w1 ⟨rfl, rfl⟩
  go_wp2_with (fail)
  refine Zo mixed (by kernel_rfl) ?_
  iterate 16
   (refine q_op' (v := ?_) (a' := ?_) (by rfl) ?_ ?_ ?_
    rotate_left 2
    ·intro w' hC
     obtain ⟨z1, z2, z3, z4, z5⟩ := HC.out w' hC
     clear hC
     go_simp
     try with_reducible rfl
    ·simp only [Pu]
     try rfl)
  refine wpQuiet_nil ?_
  intro w5 hC
  have HCw5 := hid hC
  clear hC
  go_wp2_with (fail)
  go_ret2
  exact ⟨rfl, HCw5.out⟩
 by_cases hb3 : (vl : Int) < x
 ·rw [if_pos (.inr (.inr (.inl hb3)))]
  clear hsub
  go_enter Tryz.func63, Tryz.ntmps63
  go_wp2_with (fail)
  refine HFI.out.mono ?_
  rintro e w1 ⟨rfl, rfl⟩
  go_wp2_with (fail)
  refine Zo mixed (by kernel_rfl) ?_
  iterate 16
   (refine q_op' (v := ?_) (a' := ?_) (by rfl) ?_ ?_ ?_
    rotate_left 2
    ·intro w' hC
     obtain ⟨z1, z2, z3, z4, z5⟩ := HC.out w' hC
     clear hC
     go_simp
     try with_reducible rfl
    ·simp only [Pu]
     try rfl)
  refine wpQuiet_nil ?_
  intro w5 hC
  have HCw5 := hid hC
  clear hC
  go_wp2_with (fail)
  go_ret2
  exact ⟨rfl, HCw5.out⟩
 have hsub2 : IntKind.i64.wrap ((vl : Int) - x) = (vl : Int) - x := hsub.resolve_right (by omega)
 clear hsub
 by_cases hb4 : (vl : Int) - x < k
 ·rw [if_pos (.inr (.inr (.inr hb4)))]
  go_enter Tryz.func63, Tryz.ntmps63
  go_wp2_with (fail)
  refine HFI.out.mono ?_
  rintro e w1 ⟨rfl, rfl⟩
  go_wp2_with (fail)
  refine Zo mixed (by kernel_rfl) ?_
  iterate 16
   (refine q_op' (v := ?_) (a' := ?_) (by rfl) ?_ ?_ ?_
    rotate_left 2
    ·intro w' hC
     obtain ⟨z1, z2, z3, z4, z5⟩ := HC.out w' hC
     clear hC
     go_simp
     try with_reducible rfl
    ·simp only [Pu]
     try rfl)
  refine wpQuiet_nil ?_
  intro w5 hC
  have HCw5 := hid hC
  clear hC
  go_wp2_with (fail)
  go_ret2
  exact ⟨rfl, HCw5.out⟩
 rw [if_neg (by omega)]
 obtain ⟨y, rfl⟩ := Int.eq_ofNat_of_zero_le (show 0 ≤ x by omega)
 obtain ⟨z, rfl⟩ := Int.eq_ofNat_of_zero_le (show 0 ≤ k by omega)
 have hyz : IntKind.i64.wrap ((y : Int) + (z : Int)) = (y : Int) + (z : Int) := IntWalk.i64_in _ (by omega)
 have hyv : (y : Int) + (z : Int) ≤ (vl : Int) := by omega
 have hyy : (y : Int) ≤ (y : Int) + (z : Int) := by omega
 have hy0 : (0 : Int) ≤ (y : Int) := by omega
 obtain ⟨L, hL⟩ : ∃ L, (bs.drop y).take z = L := ⟨_, rfl⟩
 have HLL := hid (show L.length = z by rw [← hL, List.length_take, List.length_drop, HSB.out.2]; omega)
 have HEX := hid (show s.extract y (y + z) = ⟨L.toArray⟩ by rw [← HSB.out.1, ← hL]; exact Zor bs y z (by rw [HSB.out.2]; omega))
 rw [Int.toNat_natCast, Int.toNat_natCast, hL]
 clear hL
 go_enter Tryz.func63, Tryz.ntmps63
 go_wp2_with (fail)
 refine HFI.out.mono ?_
 rintro e w1 ⟨rfl, rfl⟩
 go_wp2_with (fail)
 refine Zo mixed (by kernel_rfl) ?_
 iterate 16
  (refine q_op' (v := ?_) (a' := ?_) (by rfl) ?_ ?_ ?_
   rotate_left 2
   ·intro w' hC
    obtain ⟨z1, z2, z3, z4, z5⟩ := HC.out w' hC
    clear hC
    go_simp
    try with_reducible rfl
   ·simp only [Pu]
    try rfl)
 refine wpQuiet_nil ?_
 intro w5 hC
 have HCw5 := hid hC
 clear hC
 obtain ⟨cc, w6, hrun, hrow, hg6⟩ := Zj8 w5 L
 rw [← HEX.out, HLL.out] at hrun
 have HW6 := hid (And.intro hrow hg6)
 clear hrow hg6
 go_wp2_with (fail)
 go_ret2
 exact ⟨_, cc, by rw [HLL.out]; rfl, HW6.out.1, Grows.trans HCw5.out HW6.out.2⟩
end
end Go.Proofs.YtlldcogkcjnejaaGreat
namespace Go.Proofs.YtlldcogkcjnejaaGreat
open Go.RowKit
theorem Ze9 {w : World} {base : Nat} {e : TypeId} {size : Nat} {v : Value} {n : Nat} {xs : List Value} (h : w.ownsRow base e size v n xs) : ∃ A c, v = .slice A n c := by
 rcases h.2 with ⟨rfl, rfl⟩ | ⟨g, cap, _, rfl, _⟩
 ·exact ⟨none, 0, rfl⟩
 ·exact ⟨_, cap, rfl⟩
section
variable {F : Fence} {n : Nat} {P : Program} {w : World} {ops : Array Oper} {rest : List Oper} {o : Oper} {a : Act} {Q : Exit → Act → World → Prop}
theorem Zbc (hg : o.guard = none) (s x : Operand) (t : TypeId) (hop : o.op = Op.call { callee := Callee.builtin Builtin.append, args := #[s, x], argTypes := #[t, t] })
 (base : Nat) (e : TypeId) (i : TypeInfo) (z : Value) (size bytes : Nat) (h1 : P.underlying t = some (.slice e)) (h2 : P.info? e = some i) (h3 : i.zero = some z) (h4 : i.size = size) (h5 : i.bytes = bytes) (h6 : z.cells.size = size) (h7 : 0 < size)
 (v : Value) (k : Nat) (xs : List Value) (hs : a.eval s = v) (hown : w.ownsRow base e size v k xs) (ad : Addr) (m c : Nat) (news : List Value) (hx : a.eval x = .slice (some ad) m c) (hn : news.length = m * size)
 (hc : ∀ j u, news[j]? = some u → w.cell? (ad.add j) = some u) (h1c : ∀ u ∈ news, u.oneCell' = true) (b1 : k + m ≤ maxLen) (b2 : (k + m) * bytes ≤ 140737488355328) (b3 : base ≤ w.heap.size)
 (hK : ∀ A' c' w', w'.ownsRow base e size (.slice A' (k + m) c') (k + m) (xs ++ news) → w.grownBy w' v.ownBlock → ((Value.slice A' (k + m) c').ownBlock = v.ownBlock ∨ (Value.slice A' (k + m) c').ownBlock = some w.heap.size) → wpListIn F n P ops Q rest (a.put o.dst (.slice A' (k + m) c')) w') :
 wpListIn F n P ops Q (o :: rest) a w := by
 refine wpListIn_plain hg fun K hK' => ?_
 obtain ⟨v', w', hrun, r1, r2, _, r3⟩ := run_append_own_at (P := P) (w := w) base t o.type e i z size bytes h1 h2 h3 h4 h5 h6 h7 v k xs hown ad m c news hn hc h1c b1 b2 b3
 obtain ⟨A', c', rfl⟩ := Ze9 r1
 unfold Oper.wpIn
 refine ⟨?_, ?_⟩
 ·simp [Oper.about, hop, resolve, Target.leads, Sem.run_pure]
 ·rw [Oper.semAt_plain F _ _ (by rw [hop]; intro c hc'; cases hc')]
  simp only [execOp, hop, resolve, invoke, builtin, Sem.run_bind, Sem.run_pure, Result.andThen_ok, List.map_toArray, List.map_cons, List.map_nil, hs, hx, hrun]
  exact hK' _ _ (hK A' c' w' r1 r2 r3)
theorem Z0 (hg : o.guard = none) (s x : Operand) (t : TypeId) (hop : o.op = Op.call { callee := Callee.builtin Builtin.append, args := #[s, x], argTypes := #[t, t] })
 (base : Nat) (e : TypeId) (i : TypeInfo) (z : Value) (size bytes : Nat) (h1 : P.underlying t = some (.slice e)) (h2 : P.info? e = some i) (h3 : i.zero = some z) (h4 : i.size = size) (h5 : i.bytes = bytes) (h6 : z.cells.size = size) (h7 : 0 < size)
 {v : Value} {k : Nat} {xs : List Value} (hs : a.eval s = v) (hown : w.ownsRow base e size v k xs) {A : Option Addr} {m c : Nat} {B : Nat} {news : List Value} (hx : a.eval x = .slice A m c) (hr : Row w B A (size * m) news) (hbare : A = none → c = 0)
 (h1c : ∀ u ∈ news, u.oneCell' = true) (j : Nat) (hj : k + m = j) (b1 : j ≤ maxLen) (b2 : j * bytes ≤ 140737488355328) (b3 : base ≤ w.heap.size)
 (hK : ∀ A' c' w', w'.ownsRow base e size (.slice A' j c') j (xs ++ news) → w.grownBy w' v.ownBlock → ((Value.slice A' j c').ownBlock = v.ownBlock ∨ (Value.slice A' j c').ownBlock = some w.heap.size) → wpList P ops Q rest (a.put o.dst (.slice A' j c')) w') :
 wpList P ops Q (o :: rest) a w := by
 subst hj
 refine wpList_plain hg fun K hK' => ?_
 have key : ∃ v' w', (Builtin.append_ #[t, t] o.type #[v, .slice A m c]).run P w = .ok v' w' ∧ w'.ownsRow base e size v' (k + m) (xs ++ news) ∧ w.grownBy w' v.ownBlock ∧ (v'.ownBlock = v.ownBlock ∨ v'.ownBlock = some w.heap.size) := by
  rcases A with _ | ad
  ·have hnil : news = [] := by
    rcases news with _ | ⟨u, us⟩
    ·rfl
    ·obtain ⟨ad, he, _⟩ := hr.spot 0 u rfl
     cases he
   subst hnil
   have hm : m = 0 := by
    have := hr.len
    simp only [List.length_nil] at this
    rcases Nat.eq_zero_or_pos m with h | h
    ·exact h
    ·have := Nat.mul_pos h7 h; omega
   have hc := hbare rfl
   subst hm hc
   exact ⟨v, w, run_append_owned_none (P := P) (w := w) base t o.type e i size h1 h2 v k xs hown, by simpa using hown, World.grownBy.refl w _, .inl rfl⟩
  ·obtain ⟨v', w', hrun, r1, r2, _, r3⟩ := run_append_own_at (P := P) (w := w) base t o.type e i z size bytes h1 h2 h3 h4 h5 h6 h7 v k xs hown ad m c news (by rw [hr.len, Nat.mul_comm])
    (fun j u hu => by obtain ⟨ad', he, _, hc⟩ := hr.spot j u hu; injection he with he; subst he; exact hc) h1c b1 b2 b3
   exact ⟨v', w', hrun, r1, r2, r3⟩
 obtain ⟨v', w', hrun, r1, r2, r3⟩ := key
 obtain ⟨A', c', rfl⟩ := Ze9 r1
 unfold Oper.wp execOp
 simp only [hop, resolve, invoke, builtin, Sem.run_bind, Sem.run_pure, Result.andThen_ok, List.map_toArray, List.map_cons, List.map_nil, hs, hx, hrun]
 exact hK' _ _ (hK A' c' w' r1 r2 r3)
end
end Go.Proofs.YtlldcogkcjnejaaGreat
namespace Go.Proofs.YtlldcogkcjnejaaGreat
open Go.Lib (hid)
open Go.RowKit
theorem infoEn : (Tryz.prog.info? 84).map (fun i => (i.zero, i.size, i.bytes)) = some (some (.agg #[.string ⟨#[]⟩, .int .i64 0]), 2, 24) := by kernel_rfl
theorem Zay (w : World) (t : TypeId) (cs : Array Value) : Row (w.alloc (.cells cs t)) (w.alloc (.cells cs t)).heap.size (some ⟨w.heap.size, 0, none⟩) cs.size cs.toList :=
 ⟨by simp, fun k v hv => ⟨⟨w.heap.size, 0, none⟩, rfl, (Whole.made w t cs).lt, by
  rw [show (⟨w.heap.size, 0, none⟩ : Addr).add k = ⟨w.heap.size, k, none⟩ by unfold Addr.add; split <;> simp_all, (Whole.made w t cs).cell k]
  simpa using hv⟩⟩
def REnTo (w : World) (l : Dir) (e : Ending) (w' : World) : Prop := ∃ v, e = .returned v ∧ w'.ownsRow w.heap.size 84 2 v l.length (l.flatMap enC) ∧ Grows w w'
theorem Yb {k n : Nat} (h : k < n) : n - (intOf (Value.int IntKind.i64 ((k : Int) + 1))).toNat < n - (intOf (Value.int IntKind.i64 (k : Int))).toNat := by
 simp only [intOf]
 omega
theorem Zoq {n : Nm} {l : Dir} {j : Nat} {p : Nm × Nat} (h : l[j]? = some p) : Dir.del n (l.take (j + 1)) = Dir.del n (l.take j) ++ (if p.1 = n then [] else [p]) := by
 unfold Dir.del
 rw [List.take_add_one, h, List.filter_append]
 congr 1
 by_cases hp : p.1 = n
 ·rw [if_pos hp]; simp [hp]
 ·rw [if_neg hp]; simp [hp]
theorem Zcq (p : Nm × Nat) : ∀ u ∈ enC p, u.oneCell' = true := by
 intro u hu
 simp only [enC, List.mem_cons, List.not_mem_nil, or_false] at hu
 rcases hu with rfl | rfl <;> simp [Value.oneCell']
set_option maxHeartbeats 4000000 in
set_option maxRecDepth 100000 in
theorem Zg0 (w : World) {A : Option Addr} {n c : Nat} {l : Dir} (x : Nm) (h : Rw w A n enC 2 l) (hn : n ≤ 100000) :
 Calls Tryz.prog 111 #[.slice A n c, .string ⟨x.toArray⟩] w fun e w' => REnTo w (Dir.del x l) e w' := by
 obtain ⟨i1, hi1, hz1, hy1, hb1⟩ := info_parts infoEn
 have HI1 := hid (And.intro hi1 (And.intro hz1 (And.intro hy1 hb1)))
 have H := hid h
 have HL := hid h.len
 clear h hi1 hz1 hy1 hb1
 go_enter Tryz.func111, Tryz.ntmps111
 go_wp2_with (fail)
 go_loopw [5, 6] (fun vo vi wr => ∃ (j q : Nat) (L : Option Addr) (lc : Nat), j ≤ n ∧ q ≤ j ∧ vo = .slice L q lc ∧ vi = .int .i64 (j : Nat) ∧ Hid (q = (Dir.del x (l.take j)).length) ∧ Hid (wr.ownsRow w.heap.size 84 2 (.slice L q lc) q ((Dir.del x (l.take j)).flatMap enC)) ∧ Hid (Grows w wr)) (fun _ i _ => n - (intOf i).toNat)
 case atStart => exact ⟨0, 0, none, 0, by omega, by omega, rfl, rfl, hid rfl, hid ⟨rfl, .inl ⟨rfl, rfl⟩⟩, hid (Grows.refl _)⟩
 case round =>
  obtain ⟨j, q, L, lc, hj, hq, rfl, rfl, HQ, HR, HG⟩ := hrel
  by_cases hlt : j < n
  ·obtain ⟨p, hp⟩ : ∃ p, l[j]? = some p := ⟨_, List.getElem?_eq_getElem (by rw [HL.out]; exact hlt)⟩
   obtain ⟨g, hA2, hg, hc⟩ := H.out.spot j p hp
   subst hA2
   have c0 : wr.cell? { block := g, off := j * 2 } = some (.string ⟨p.1.toArray⟩) := by
    rw [HG.out.cell (show (⟨g, j * 2, none⟩ : Addr).block < w.heap.size from hg)]; exact hc 0 (by omega)
   have c1 : wr.cell? { block := g, off := j * 2 + 1 } = some (.int .i64 (p.2 : Int)) := by
    rw [HG.out.cell (show (⟨g, j * 2 + 1, none⟩ : Addr).block < w.heap.size from hg)]; exact hc 1 (by omega)
   have hjI : (j : Int) < (n : Int) := by omega
   have hj0 : (0 : Int) ≤ (j : Int) := by omega
   have hwj : IntKind.i64.wrap ((j : Int) + 1) = (j : Int) + 1 := IntWalk.i64_in _ (by omega)
   have HST := hid (Zoq (n := x) hp)
   have HLT := hid (And.intro hlt (And.intro hq hn))
   clear hp hc
   by_cases hpx : p.1 = x
   ·have hb : (p.1 == x) = true := by rw [beq_iff_eq]; exact hpx
    have HE := hid (show Dir.del x (l.take (j + 1)) = Dir.del x (l.take j) by rw [HST.out, if_pos hpx, List.append_nil])
    clear hpx
    go_wp2_with (fail)
    exact ⟨⟨j + 1, q, L, lc, HLT.out.1, by omega, rfl, rfl, hid (by rw [HE.out]; exact HQ.out), hid (by rw [HE.out]; exact HR.out), HG⟩, Yb HLT.out.1⟩
   ·have hb : (p.1 == x) = false := by rw [beq_eq_false_iff_ne]; exact hpx
    have HE := hid (show Dir.del x (l.take (j + 1)) = Dir.del x (l.take j) ++ [p] by rw [HST.out, if_neg hpx])
    have HN := hid (show (Dir.del x (l.take j)).flatMap enC ++ enC p = (Dir.del x (l.take (j + 1))).flatMap enC by rw [HE.out, List.flatMap_append]; simp)
    have HR2 := hid (Zd HR.out (Zb wr (.cells #[.string ⟨p.1.toArray⟩, .int .i64 (p.2 : Int)] 84)))
    clear hpx
    go_wp2_with (first
     | (at_builtin
        refine Z0 rfl (.tmp 20) (.tmp 25) 61 rfl w.heap.size 84 i1 (.agg #[.string ⟨#[]⟩, .int .i64 0]) 2 24 Tryz.underlying61 HI1.out.1 HI1.out.2.1 HI1.out.2.2.1 HI1.out.2.2.2 rfl (by decide) rfl
         HR2.out rfl (Zay _ _ _) (fun h => by cases h) (Zcq p) (q + 1) rfl (by unfold maxLen; have := HLT.out; omega) (by have := HLT.out; omega) (Nat.le_trans HG.out.size (Z1 _ _)) ?_
        intro L2 lc2 w5 hr5 hg5 hat5
        have HR5 := hid hr5
        have HG5 := hid (show Grows w w5 from Below.grown (Grows.trans HG.out (Zb wr (.cells #[.string ⟨p.1.toArray⟩, .int .i64 (p.2 : Int)] 84))) hg5 (Nat.le_trans HG.out.size (Z1 _ _)) fun k hk => (HR2.out.lt k hk).1)
        clear hr5 hg5 hat5))
    exact ⟨⟨j + 1, q + 1, L2, lc2, HLT.out.1, by have := HLT.out; omega, rfl, rfl, hid (by rw [HE.out, List.length_append, ← HQ.out]; rfl), hid (HN.out ▸ HR5.out), HG5⟩, Yb HLT.out.1⟩
  ·obtain rfl : j = n := by omega
   have HE := hid (show l.take j = l from List.take_of_length_le (by rw [HL.out]; exact Nat.le_refl _))
   go_wp2_with (fail)
   go_ret
   have hr := HR.out
   have hq := HQ.out
   rw [HE.out] at hr hq
   exact ⟨_, rfl, hq ▸ hr, HG.out⟩
end Go.Proofs.YtlldcogkcjnejaaGreat
