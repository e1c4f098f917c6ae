import Derived.Test.YtlldcogkcjnejaaGreatMG12
import Derived.Test.YtlldcogkcjnejaaGreatMG01
set_option linter.unusedSimpArgs false
namespace Go.Proofs.YtlldcogkcjnejaaGreat
open Go.Lib (hid)
open Go.RowKit
theorem Row.ownedK {w : World} {e : TypeId} {A : Option Addr} {n c k : Nat} {xs : List Value} (h : w.ownsRow 0 e k (.slice A n c) n xs) : Row w w.heap.size A (k * n) xs ∧ (A = none → c = 0) := by
 have hl : xs.length = k * n := by have := h.1; rw [Nat.mul_comm]; omega
 refine ⟨⟨hl, fun j v hv => ?_⟩, fun hA => ?_⟩
 ·have hj : j < xs.length := (List.getElem?_eq_some_iff.1 hv).1
  have hn : 0 < n := by
   rcases Nat.eq_zero_or_pos n with h0 | h0
   ·rw [h0, Nat.mul_zero] at hl; omega
   ·exact h0
  obtain ⟨g, cap, hval, _, hlt⟩ := h.form hn
  injection hval with hA _ _
  subst hA
  exact ⟨_, rfl, hlt, h.cells (g := g) rfl j v hv⟩
 ·rcases h.2 with ⟨h1, _⟩ | ⟨g, cap, _, h1, _⟩
  ·injection h1
  ·injection h1 with h1 _ _; rw [hA] at h1; cases h1
theorem Zca (v : Fl) : ∀ (l : List Fl) (k : Nat), k < l.length → ((l.flatMap flC).set (k * 2) (.string ⟨v.bytes.toArray⟩)).set (k * 2 + 1) (.int .i64 (v.kept : Int)) = (l.set k v).flatMap flC
 | a :: l, 0, _ => by
   simp only [List.flatMap_cons, flC, List.set_cons_zero, Nat.zero_mul, List.cons_append, List.nil_append, Nat.zero_add, List.set_cons_succ]
 | a :: l, k + 1, h => by
   have ih := Zca v l k (by simpa using h)
   rw [List.set_cons_succ, List.flatMap_cons, List.flatMap_cons, ← ih]
   simp only [flC, List.cons_append, List.nil_append]
   rw [show (k + 1) * 2 = k * 2 + 1 + 1 by omega, show k * 2 + 1 + 1 + 1 = (k * 2 + 1) + 1 + 1 by omega]
   simp only [List.set_cons_succ]
section
variable {w w' : World} {r : Nat} {own : Nat → Prop} {m m' : Rf} {fv nv kv pv : Value}
set_option maxHeartbeats 4000000 in
set_option maxRecDepth 100000 in
theorem Zfq (w : World) (k : Nat) (v : Fl) (h : RfAt w r own m fv nv kv pv) (hF : m.files.length ≤ 100000) (hk : k < m.files.length) :
 Calls Tryz.prog 75 #[.pointer (some ⟨r, 0, none⟩), .int .i64 (k : Int), .agg #[.string ⟨v.bytes.toArray⟩, .int .i64 (v.kept : Int)]] w fun e w' => e = .returned (.tuple #[]) ∧ RfTo w r own w' (m.set k v) := by
 obtain ⟨i1, hi1, hz1, hy1, hb1⟩ := info_parts infoFl
 have HI1 := hid (And.intro hi1 (And.intro hz1 (And.intro hy1 hb1)))
 clear hi1 hz1 hy1 hb1
 obtain ⟨FA, fc, hFA⟩ := Z8 h.files
 obtain ⟨W1, hW1⟩ : ∃ W1, w.alloc (.cells #[.string ⟨v.bytes.toArray⟩, .int .i64 (v.kept : Int)] 82) = W1 := ⟨_, rfl⟩
 have HG1 := hid (show Grows w W1 from hW1 ▸ Zb _ _)
 have HM1 := hid (show Whole W1 w.heap.size 82 #[.string ⟨v.bytes.toArray⟩, .int .i64 (v.kept : Int)] from hW1 ▸ Whole.made _ _ _)
 obtain ⟨W2, hW2⟩ : ∃ W2, W1.alloc (.cells #[] 82) = W2 := ⟨_, rfl⟩
 have HG2 := hid (show Grows W1 W2 from hW2 ▸ Zb _ _)
 have HO2 := hid (show W2.ownsRow W1.heap.size 82 2 (.slice (some ⟨W1.heap.size, 0, none⟩) 0 0) 0 [] from hW2 ▸ World.ownsRow_lit (size := 2) (e := 82) (base := W1.heap.size) W1 #[] 0 (Nat.le_refl _) (Nat.zero_le _) rfl)
 have HGA := hid (Grows.trans HG1.out HG2.out)
 have h2 := h.grow HGA.out
 have hrw := Row.ownedK (hFA ▸ h2.files)
 have c1 : W2.cell? ⟨r, 1, none⟩ = some (.slice FA m.files.length fc) := hFA ▸ h2.cell 1
 have HRW := hid hrw
 have H := hid h
 have HFA := hid hFA
 obtain ⟨fl, hfl⟩ : ∃ fl, m.files.length = fl := ⟨_, rfl⟩
 have HFL := hid hfl
 rw [hfl] at HRW c1 hF hk
 have haft := (show ∀ LB ld (w5 : World), w5.ownsRow W1.heap.size 82 2 (.slice LB fl ld) fl ([] ++ m.files.flatMap flC) → W2.grownBy w5 (Value.slice (some ⟨W1.heap.size, 0, none⟩) 0 0).ownBlock →
  ∃ g, LB = some ⟨g, 0, none⟩ ∧ (∃ ov, w5.cell? { block := g, off := k * 2 } = some (.string ov)) ∧ w5.frozen? { block := g, off := k * 2 } = false ∧ (∃ oi : Int, w5.cell? { block := g, off := k * 2 + 1 } = some (.int .i64 oi)) ∧ w5.frozen? { block := g, off := k * 2 + 1 } = false ∧
   w5.cell? { block := w.heap.size, off := 0 } = some (.string ⟨v.bytes.toArray⟩) ∧ w5.cell? { block := w.heap.size, off := 1 } = some (.int .i64 (v.kept : Int)) ∧ w5.cell? { block := r, off := 1 } = some (.slice FA fl fc) ∧ w5.frozen? { block := r, off := 1 } = false ∧ ¬ g = r ∧ ¬ r = g ∧
   RfTo w r own (((w5.setCell { block := g, off := k * 2 } (.string ⟨v.bytes.toArray⟩)).setCell { block := g, off := k * 2 + 1 } (.int .i64 (v.kept : Int))).setCell { block := r, off := 1 } (.slice (some ⟨g, 0, none⟩) fl ld)) (m.set k v) from fun LB ld w5 hr5 hg5 => by
  rw [List.nil_append] at hr5
  obtain ⟨g, cap, hv, hgb, hglt⟩ := hr5.form (by omega)
  injection hv with hv1 _ hv2
  subst hv1 hv2
  have hG5 : Grows W1 w5 := Below.grown HG2.out hg5 HG2.out.size fun q hq => by
   have := (HO2.out.lt q hq).1; exact this
  have hGw : Grows w w5 := Grows.trans HG1.out hG5
  have h5 := H.out.grow hGw
  have hr : r < w.heap.size := H.out.top.lt
  have hws := HG1.out.size
  have hkl : k < m.files.length := by rw [HFL.out]; exact hk
  have hfi : m.files[k]? = some m.files[k] := List.getElem?_eq_getElem hkl
  have x0 := Zak flL m.files k 0 _ hfi (by omega)
  have x1 := Zak flL m.files k 1 _ hfi (by omega)
  have y0 := (hr5.cellAt (k * 2) (by omega)).trans x0
  have y1 := (hr5.cellAt (k * 2 + 1) (by omega)).trans x1
  have hm5 := hG5.whole HM1.out
  have s1 := (hr5.stored (k * 2) (.string ⟨v.bytes.toArray⟩)).1
  have s2 := (s1.stored (k * 2 + 1) (.int .i64 (v.kept : Int))).1
  rw [Zca v m.files k hkl] at s2
  have hgr : ¬ g = r := by omega
  have hg6 : Grows w ((w5.setCell { block := g, off := k * 2 } (.string ⟨v.bytes.toArray⟩)).setCell { block := g, off := k * 2 + 1 } (.int .i64 (v.kept : Int))) := (hGw.setCell (show w.heap.size ≤ g by omega) _).setCell (show w.heap.size ≤ g by omega) _
  have hfa := H.out.filedA (p' := .slice (some ⟨g, 0, none⟩) fl ld) (fs := m.files.set k v) (Zc.grows hg6) (by rw [List.length_set, HFL.out]; exact Zj s2 (Nat.zero_le _)) (.inr ⟨g, rfl, by omega⟩)
  refine ⟨g, rfl, ⟨_, y0⟩, hr5.frozenAt _, ⟨_, y1⟩, hr5.frozenAt _, hm5.cell 0, hm5.cell 1, ?_, h5.top.free 1, hgr, fun e => hgr e.symm, ?_⟩
  ·have := h5.cell 1
   rw [← HFL.out, ← HFA.out]
   exact this
  ·exact ⟨_, _, _, _, _, hfa.1, hfa.2, fun q hq => hq.imp id fun e => e.1⟩)
 have HAFT := hid haft
 have hkI : (k : Int) < (fl : Int) := by omega
 have hk0 : (0 : Int) ≤ (k : Int) := by omega
 clear h h2 hrw hFA hfl haft
 go_enter Tryz.func75, Tryz.ntmps75
 go_wp2_with (first
  | (at_builtin
     refine Z0 rfl (.tmp 7) (.tmp 11) 60 rfl W1.heap.size 82 i1 (.agg #[.string ⟨#[]⟩, .int .i64 0]) 2 24 Tryz.underlying60 HI1.out.1 HI1.out.2.1 HI1.out.2.2.1 HI1.out.2.2.2 rfl (by decide) rfl
      HO2.out rfl HRW.out.1 HRW.out.2 (fun u hu => by obtain ⟨q, _, hq⟩ := List.mem_flatMap.1 hu; exact Zfr q u hq) fl (Nat.zero_add _) (by unfold maxLen; omega) (by omega) HG2.out.size ?_
     intro LB ld w5 hr5 hg5 hat5
     obtain ⟨g, rfl, ⟨ov, q1⟩, q1f, ⟨oi, q2⟩, q2f, q3, q4, q5, q5f, q6, q7, hfin⟩ := HAFT.out LB ld w5 hr5 hg5
     have HFIN := hid hfin
     clear hr5 hg5 hat5 hfin))
 go_end0
 exact ⟨rfl, HFIN.out⟩
end
theorem RfFit.thing {m : Rf} (h : RfFit m) : RfFit m.thing.1 := by
 have hk := Jc m
 have hn := h.nums
 have hs : ∀ x : Int, -1 ≤ x → x ≤ 9223372036854775807 → -1 ≤ sooner x ∧ sooner x ≤ 9223372036854775807 := fun x h1 h2 => by
  unfold sooner
  split <;> omega
 have h1 := hs _ hn.1.1 hn.1.2
 have h2 := hs _ hn.2.1 hn.2.2
 refine ⟨?_, by rw [hk.1]; exact h.files, by rw [hk.2.1]; exact h.names, by rw [hk.2.2.1]; exact h.kept, by rw [hk.2.2.2.1]; exact h.pend, by rw [hk.1, hk.2.1]; exact h.idx, by rw [hk.1]; exact h.bytes⟩
 unfold Rf.thing Rf.sooner
 dsimp only
 (repeat' split) <;> dsimp only <;> omega
section
variable {w w' : World} {r : Nat} {own : Nat → Prop} {m m' : Rf} {fv nv kv pv fv' nv' kv' pv' : Value}
set_option maxHeartbeats 4000000 in
set_option maxRecDepth 100000 in
theorem Zlr (w : World) (n : Nm) (h : RfAt w r own m fv nv kv pv) (hF : RfFit m) : Calls Tryz.prog 37 #[.pointer (some ⟨r, 0, none⟩), .string ⟨n.toArray⟩] w fun e w' => RDid w r own (m.sync n) e w' := by
 have c8 : w.cell? ⟨r, 8, none⟩ = some (.bool m.down) := h.cell 8
 obtain ⟨A, c, hA, hrw⟩ := h.namesRw
 have c2 : w.cell? ⟨r, 2, none⟩ = some (.slice A m.names.length c) := by rw [← hA]; exact h.cell 2
 have HFI := hid (Yu w (c := c) n hrw (by have := hF.names; omega))
 have HTH := hid (Zat w h ⟨hF.nums.1.2, hF.nums.2.2⟩)
 have H := hid h
 have HF := hid hF
 unfold Rf.sync
 cases hd : m.down with
 | true =>
   rw [hd] at c8
   rw [if_pos rfl]
   clear h hF hA hrw c2 HFI hd HTH
   go_enter Tryz.func37, Tryz.ntmps37
   go_wp2
   go_ret
   exact ⟨rfl, RfTo.same H.out (Zc.refl _ _) H.out.ro⟩
 | false =>
 rw [hd] at c8
 rw [if_neg (by decide)]
 rcases Jm (n := n) (l := m.names) with ⟨hf, hx'⟩ | ⟨i, f, hf, hx', hi⟩
 ·rw [hf]
  dsimp only
  rw [hx'] at HFI
  clear h hA hrw hf hx' hF hd HTH
  go_enter Tryz.func37, Tryz.ntmps37
  go_wp2_with (fail)
  refine HFI.out.mono ?_
  rintro e w1 ⟨rfl, rfl⟩
  go_wp2_with (fail)
  go_ret
  exact ⟨rfl, RfTo.same H.out (Zc.refl _ _) H.out.ro⟩
 rw [hf]
 dsimp only
 rw [hx'] at HFI
 have hi0 : ¬ ((i : Int) < 0) := by omega
 have hi1 : (0 : Int) ≤ (i : Int) := by omega
 obtain ⟨tc, htc⟩ : ∃ tc, m.thing.2 = tc := ⟨_, rfl⟩
 rw [htc] at HTH
 have HTC := hid htc
 have HI := hid hi
 by_cases hz : tc = 0
 ·rw [if_pos (show m.thing.2 = 0 by rw [htc]; exact hz)]
  subst hz
  clear h hA hrw hF hd hf hx' htc hi
  go_enter Tryz.func37, Tryz.ntmps37
  go_wp2_with (fail)
  refine HFI.out.mono ?_
  rintro e w1 ⟨rfl, rfl⟩
  go_wp2_with (fail)
  refine HTH.out.mono ?_
  rintro e w2 ⟨rfl, X, hX, hat, hs⟩
  have hFX : RfFit X := hX ▸ RfFit.thing HF.out
  have hXk := Jc m
  rw [← hX] at hXk
  obtain ⟨gn, cn, gf, cf, v, hn, hfv, hv, hil, hfl, hc⟩ := hat.found hFX (i := i) (n := n) (f := f) (by rw [hXk.2.1]; exact HI.out)
  have hgd : m.files.getD f ⟨[], 0⟩ = v := by rw [← hXk.1]; exact Zbh hv
  have hvb := hFX.bytes v (List.mem_of_getElem? hv)
  have hset : ∀ w6, Grows w2 w6 → _ := fun w6 hg => Zfq w6 f ⟨v.bytes, v.bytes.length⟩ (hat.grow hg) hFX.files hfl
  rw [hn, hfv] at hc
  obtain ⟨z1w, z2w, z3w, z4w, z5w⟩ := hc w2 (Grows.refl _)
  have HC := hid hc
  have HAT := hid (And.intro hat hs)
  have HX := hid (And.intro hX (And.intro hXk hgd))
  have hiI : (i : Int) < (X.names.length : Int) := by omega
  have hfI : (f : Int) < (X.files.length : Int) := by omega
  have hf0 : (0 : Int) ≤ (f : Int) := by omega
  obtain ⟨nl, hnl⟩ : ∃ nl, X.names.length = nl := ⟨_, rfl⟩
  obtain ⟨fl, hfl'⟩ : ∃ fl, X.files.length = fl := ⟨_, rfl⟩
  obtain ⟨sb, hsb⟩ : ∃ s : ByteArray, (⟨v.bytes.toArray⟩ : ByteArray) = s := ⟨_, rfl⟩
  obtain ⟨vl, hvl⟩ : ∃ vl, v.bytes.length = vl := ⟨_, rfl⟩
  have hss : sb.size = vl := by rw [← hsb, ← hvl]; simp [ByteArray.size]
  have HSET := hid (show ∀ w6, Grows w2 w6 → Calls Tryz.prog 75 #[.pointer (some ⟨r, 0, none⟩), .int .i64 (f : Int), .agg #[.string sb, .int .i64 (vl : Int)]] w6 fun e w' => e = .returned (.tuple #[]) ∧ RfTo w6 r own w' (X.set f ⟨v.bytes, v.bytes.length⟩) from hsb ▸ hvl ▸ hset)
  rw [hnl] at hiI z2w HC
  rw [hfl'] at hfI z1w HC
  rw [hsb] at z4w HC
  clear hat hs hX hXk hgd hFX hn hfv hv hil hfl hc hset hvb hnl hfl' hsb hvl z4w z5w c2 c8 z1w
  go_wp2_with (fail)
  refine Zh (E := Grows) 20 [Za (.pointer (some ⟨r, 0, none⟩)), Za (.int .i64 (f : Int)), Za (.pointer (some ⟨r, 0, none⟩)), Za (.pointer (some ⟨r, 0, none⟩)), Za (.pointer (some ⟨r, 1, none⟩)), Za (.slice (some ⟨gf, 0, none⟩) fl cf), Za (.int .i64 (f : Int)), Za (.pointer (some ⟨gf, f * 2, none⟩)), Za (.pointer (some ⟨gf, f * 2, none⟩)), Za (.string sb), Za (.pointer (some ⟨r, 0, none⟩)), Za (.pointer (some ⟨r, 0, none⟩)), Za (.pointer (some ⟨r, 1, none⟩)), Za (.slice (some ⟨gf, 0, none⟩) fl cf), Za (.int .i64 (f : Int)), Za (.pointer (some ⟨gf, f * 2, none⟩)), Za (.pointer (some ⟨gf, f * 2, none⟩)), Za (.string sb), Za (.int .i64 (vl : Int)), Za (.agg #[.string sb, .int .i64 (vl : Int)])] mixed (by kernel_rfl) (fun _ _ _ => Grows.trans) (Ze _) ?_
  simp only [List.take_succ_cons, List.take_zero, List.drop_succ_cons, List.drop_zero]
  iterate 5
   refine f_val _ (by rfl) ?_ ?_
   ·intro w' hC; clear hC; go_simp
   simp only [Pu]
  refine f_val _ (by rfl) ?_ ?_
  ·intro w' hC; obtain ⟨z1, z2, z3, z4, z5⟩ := HC.out w' hC; clear hC; go_simp
  simp only [Pu]
  iterate 3
   refine f_val _ (by rfl) ?_ ?_
   ·intro w' hC; clear hC; go_simp
   simp only [Pu]
  refine f_val _ (by rfl) ?_ ?_
  ·intro w' hC; obtain ⟨z1, z2, z3, z4, z5⟩ := HC.out w' hC; clear hC; go_simp
  simp only [Pu]
  iterate 3
   refine f_val _ (by rfl) ?_ ?_
   ·intro w' hC; clear hC; go_simp
   simp only [Pu]
  refine f_val _ (by rfl) ?_ ?_
  ·intro w' hC; obtain ⟨z1, z2, z3, z4, z5⟩ := HC.out w' hC; clear hC; go_simp
  simp only [Pu]
  iterate 3
   refine f_val _ (by rfl) ?_ ?_
   ·intro w' hC; clear hC; go_simp
   simp only [Pu]
  refine f_val _ (by rfl) ?_ ?_
  ·intro w' hC; obtain ⟨z1, z2, z3, z4, z5⟩ := HC.out w' hC; clear hC; go_simp
  simp only [Pu]
  iterate 2
   refine f_val _ (by rfl) ?_ ?_
   ·intro w' hC; clear hC; go_simp
   simp only [Pu]
  refine Zv ?_
  intro w6 hC hks
  have HCw6 := hid hC
  clear hC hks
  go_wp2_with (fail)
  refine (HSET.out w6 HCw6.out).mono ?_
  rintro e w7 ⟨rfl, hto⟩
  have HTO := hid hto
  clear hto
  go_wp2_with (fail)
  go_ret
  refine ⟨rfl, ?_⟩
  have hfin := RfTo.behind H.out.ro (HAT.out.2.trans (Zc.grows HCw6.out)) HTO.out
  rw [HX.out.2.2, ← HX.out.1]
  exact hfin
 ·rw [if_neg (show ¬ m.thing.2 = 0 by rw [htc]; exact hz)]
  have hzb : (tc == 0) = false := by rw [beq_eq_false_iff_ne]; exact hz
  clear h hA hrw hF hd hf hx' htc hi
  go_enter Tryz.func37, Tryz.ntmps37
  go_wp2_with (fail)
  refine HFI.out.mono ?_
  rintro e w1 ⟨rfl, rfl⟩
  go_wp2_with (fail)
  refine HTH.out.mono ?_
  rintro e w2 ⟨rfl, X, hX, hat, hs⟩
  have HAT := hid (And.intro hat hs)
  have HX := hid hX
  clear hat hs hX
  go_wp2_with (fail)
  go_ret
  refine ⟨by rw [HTC.out]; rfl, ?_⟩
  rw [← HX.out]
  exact RfTo.same HAT.out.1 HAT.out.2 H.out.ro
end
theorem Zop (a b : List UInt8) : (⟨a.toArray⟩ : ByteArray) ++ (⟨b.toArray⟩ : ByteArray) = ⟨(a ++ b).toArray⟩ := by
 show (⟨a.toArray⟩ : ByteArray).append ⟨b.toArray⟩ = _
 simp [ByteArray.append, ByteArray.copySlice, ByteArray.ext_iff]
theorem Zqy {m : Rf} (hF : RfFit m) : m.used ≤ 10000000000 := by
 have h1 := S_le (ln := m.len) (K := 100000) (l := m.names) fun i hi => by
  obtain ⟨p, hp, rfl⟩ := List.mem_map.1 hi
  have h2 := hF.idx p hp
  unfold Rf.len
  rw [List.getD_eq_getElem?_getD, List.getElem?_eq_getElem h2]
  exact (hF.bytes _ (List.getElem_mem h2)).1
 have h3 : m.names.length * 100000 ≤ 100000 * 100000 := Nat.mul_le_mul_right _ hF.names
 exact Nat.le_trans h1 h3
section
variable {w w' : World} {r : Nat} {own : Nat → Prop} {m m' : Rf} {fv nv kv pv fv' nv' kv' pv' : Value}
set_option maxHeartbeats 4000000 in
set_option maxRecDepth 100000 in
theorem Zic (w : World) (n : Nm) (b : List UInt8) {A3 : Option Addr} {ln c3 : Nat} (hkeep : ∀ w1 w2 w', Grows w w1 → Zc (fun k => k = r) w1 w2 → Grows w2 w' → Sl w' A3 ln c3 b) (hln : ln ≤ 100000) (h : RfAt w r own m fv nv kv pv) (hF : RfFit m) (hmost : 0 ≤ m.most ∧ m.most ≤ 100000000000) : Calls Tryz.prog 57 #[.pointer (some ⟨r, 0, none⟩), .string ⟨n.toArray⟩, .slice A3 ln c3] w fun e w' => RDid w r own (m.append n b) e w' := by
 have c8 : w.cell? ⟨r, 8, none⟩ = some (.bool m.down) := h.cell 8
 have H0 := hid (show ∀ w', Grows w w' → w'.cell? ⟨r, 0, none⟩ = some (.int .i64 m.most) from fun w' (hg : Grows w w') => (h.grow hg).cell 0)
 obtain ⟨A, c, hA, hrw⟩ := h.namesRw
 have c2 : w.cell? ⟨r, 2, none⟩ = some (.slice A m.names.length c) := by rw [← hA]; exact h.cell 2
 have HFI := hid (Yu w (c := c) n hrw (by have := hF.names; omega))
 have H := hid h
 have HF := hid hF
 have HK := hid hkeep
 have hlb : b.length = ln := (hkeep w w w (Grows.refl _) (Zc.refl _ _) (Grows.refl _)).len
 unfold Rf.append
 cases hd : m.down with
 | true =>
   rw [hd] at c8
   rw [if_pos rfl]
   clear h hF hA hrw c2 HFI hd hkeep hlb hmost
   go_enter Tryz.func57, Tryz.ntmps57
   go_wp2
   go_ret
   exact ⟨rfl, RfTo.same H.out (Zc.refl _ _) H.out.ro⟩
 | false =>
 rw [hd] at c8
 rw [if_neg (by decide)]
 rcases Jm (n := n) (l := m.names) with ⟨hf, hx'⟩ | ⟨i, f, hf, hx', hi⟩
 ·rw [hf]
  dsimp only
  rw [hx'] at HFI
  clear h hA hrw hf hx' hF hd hkeep hlb hmost
  go_enter Tryz.func57, Tryz.ntmps57
  go_wp2_with (fail)
  refine HFI.out.mono ?_
  rintro e w1 ⟨rfl, rfl⟩
  go_wp2_with (fail)
  go_ret
  exact ⟨rfl, RfTo.same H.out (Zc.refl _ _) H.out.ro⟩
 rw [hf]
 dsimp only
 rw [hx'] at HFI
 have hi0 : ¬ ((i : Int) < 0) := by omega
 have hi1 : (0 : Int) ≤ (i : Int) := by omega
 have HI := hid hi
 have hul := Zqy hF
 have HUS := hid (fun w' (hg : Grows w w') => Zg1 w' (h.grow hg) hF)
 obtain ⟨us, hus⟩ : ∃ us, m.used = us := ⟨_, rfl⟩
 obtain ⟨ms, hms⟩ : ∃ ms, m.most = ms := ⟨_, rfl⟩
 obtain ⟨dd, hdd⟩ : ∃ dd, ms - (us : Int) = dd := ⟨_, rfl⟩
 have hwd : IntKind.i64.wrap (ms - (us : Int)) = dd := by rw [IntWalk.i64_in _ (by omega)]; exact hdd
 rw [hus] at HUS hul
 rw [hms] at H0 hmost
 rw [hus, hms, hdd, hlb]
 clear hdd hul hmost
 by_cases hfull : dd < (ln : Int)
 ·rw [if_pos hfull]
  clear h hA hrw hf hx' hF hd hkeep hi hus hms hlb
  go_enter Tryz.func57, Tryz.ntmps57
  go_wp2_with (fail)
  refine HFI.out.mono ?_
  rintro e w1 ⟨rfl, rfl⟩
  go_wp2_with (fail)
  refine Zf (E := Grows) [Za (.slice A3 ln c3), Za (.int .i64 (ln : Int)), Za (.pointer (some ⟨r, 0, none⟩)), Za (.pointer (some ⟨r, 0, none⟩)), Za (.pointer (some ⟨r, 0, none⟩)), Za (.int .i64 ms), Za (.pointer (some ⟨r, 0, none⟩)), Za (.int .i64 (us : Nat)), Za (.int .i64 dd), Za (.bool true)] (by kernel_rfl) (by kernel_rfl) (fun _ _ _ => Grows.trans) (Ze _) ?_
  iterate 5
   refine f_val _ (by rfl) ?_ ?_
   ·intro w' hC; clear hC; go_simp
   simp only [Pu]
  refine f_val _ (by rfl) ?_ ?_
  ·intro w' hC; have z0 := H0.out w' hC; clear hC; go_simp
  simp only [Pu]
  refine f_val _ (by rfl) ?_ ?_
  ·intro w' hC; clear hC; go_simp
  simp only [Pu]
  refine Jb 12 #[.pointer (some ⟨r, 0, none⟩)] (.int .i64 (us : Nat)) (by rfl) (by intro w' hC; clear hC; go_simp) ?_ ?_
  ·intro w' hC hks; exact HUS.out w' hC
  simp only [Pu]
  iterate 2
   refine f_val _ (by rfl) ?_ ?_
   ·intro w' hC; clear hC; go_simp
   simp only [Pu]
  intro w5 hC _
  have HCw5 := hid hC
  clear hC
  go_wp2_with (fail)
  go_ret
  exact ⟨rfl, RfTo.same (H.out.grow HCw5.out) (Zc.grows HCw5.out) H.out.ro⟩
 rw [if_neg hfull]
 obtain ⟨tc, htc⟩ : ∃ tc, m.thing.2 = tc := ⟨_, rfl⟩
 have HTH := hid (fun w' (hg : Grows w w') => Zat w' (h.grow hg) ⟨hF.nums.1.2, hF.nums.2.2⟩)
 rw [htc] at HTH
 have HTC := hid htc
 by_cases hz : tc = 0
 ·rw [if_pos (show m.thing.2 = 0 by rw [htc]; exact hz)]
  subst hz
  have HLB := hid hlb
  clear h hA hrw hF hd hf hx' htc hi hkeep hus hms hlb
  go_enter Tryz.func57, Tryz.ntmps57
  go_wp2_with (fail)
  refine HFI.out.mono ?_
  rintro e w1 ⟨rfl, rfl⟩
  go_wp2_with (fail)
  refine Zf (E := Grows) [Za (.slice A3 ln c3), Za (.int .i64 (ln : Int)), Za (.pointer (some ⟨r, 0, none⟩)), Za (.pointer (some ⟨r, 0, none⟩)), Za (.pointer (some ⟨r, 0, none⟩)), Za (.int .i64 ms), Za (.pointer (some ⟨r, 0, none⟩)), Za (.int .i64 (us : Nat)), Za (.int .i64 dd), Za (.bool false)] (by kernel_rfl) (by kernel_rfl) (fun _ _ _ => Grows.trans) (Ze _) ?_
  iterate 5
   refine f_val _ (by rfl) ?_ ?_
   ·intro w' hC; clear hC; go_simp
   simp only [Pu]
  refine f_val _ (by rfl) ?_ ?_
  ·intro w' hC; have z0 := H0.out w' hC; clear hC; go_simp
  simp only [Pu]
  refine f_val _ (by rfl) ?_ ?_
  ·intro w' hC; clear hC; go_simp
  simp only [Pu]
  refine Jb 12 #[.pointer (some ⟨r, 0, none⟩)] (.int .i64 (us : Nat)) (by rfl) (by intro w' hC; clear hC; go_simp) ?_ ?_
  ·intro w' hC hks; exact HUS.out w' hC
  simp only [Pu]
  iterate 2
   refine f_val _ (by rfl) ?_ ?_
   ·intro w' hC; clear hC; go_simp
   simp only [Pu]
  intro w5 hC _
  have HCw5 := hid hC
  clear hC
  go_wp2_with (fail)
  refine (HTH.out w5 HCw5.out).mono ?_
  rintro e w2 ⟨rfl, X, hX, hat, hs⟩
  have hFX : RfFit X := hX ▸ RfFit.thing HF.out
  have hXk := Jc m
  rw [← hX] at hXk
  obtain ⟨gn, cn, gf, cf, v, hn, hfv, hv, hil, hfl, hc⟩ := hat.found hFX (i := i) (n := n) (f := f) (by rw [hXk.2.1]; exact HI.out)
  have hgd : m.files.getD f ⟨[], 0⟩ = v := by rw [← hXk.1]; exact Zbh hv
  have hvb := hFX.bytes v (List.mem_of_getElem? hv)
  have hset : ∀ w6, Grows w2 w6 → _ := fun w6 hg => Zfq w6 f ⟨v.bytes ++ b, v.kept⟩ (hat.grow hg) hFX.files hfl
  have hsl : ∀ w6, Grows w2 w6 → _ := fun w6 hg => Zu (HK.out w5 w2 w6 HCw5.out hs hg)
  rw [hn, hfv] at hc
  obtain ⟨z1w, z2w, z3w, z4w, z5w⟩ := hc w2 (Grows.refl _)
  have HC := hid hc
  have HAT := hid (And.intro hat hs)
  have HX := hid (And.intro hX (And.intro hXk hgd))
  have hiI : (i : Int) < (X.names.length : Int) := by omega
  have hfI : (f : Int) < (X.files.length : Int) := by omega
  have hf0 : (0 : Int) ≤ (f : Int) := by omega
  obtain ⟨nl, hnl⟩ : ∃ nl, X.names.length = nl := ⟨_, rfl⟩
  obtain ⟨fl, hfl'⟩ : ∃ fl, X.files.length = fl := ⟨_, rfl⟩
  obtain ⟨sb, hsb⟩ : ∃ s : ByteArray, (⟨v.bytes.toArray⟩ : ByteArray) = s := ⟨_, rfl⟩
  obtain ⟨tb, htb⟩ : ∃ s : ByteArray, (⟨b.toArray⟩ : ByteArray) = s := ⟨_, rfl⟩
  obtain ⟨st, hst⟩ : ∃ s : ByteArray, sb ++ tb = s := ⟨_, rfl⟩
  obtain ⟨kp, hkp⟩ : ∃ kp, v.kept = kp := ⟨_, rfl⟩
  have hss : sb.size ≤ 100000 := by rw [← hsb]; simpa [ByteArray.size] using hvb.1
  have hts : tb.size ≤ 100000 := by rw [← htb]; simpa [ByteArray.size, HLB.out] using hln
  have hst' : (⟨(v.bytes ++ b).toArray⟩ : ByteArray) = st := by rw [← Zop, hsb, htb]; exact hst
  have HSET := hid (show ∀ w6, Grows w2 w6 → Calls Tryz.prog 75 #[.pointer (some ⟨r, 0, none⟩), .int .i64 (f : Int), .agg #[.string st, .int .i64 (kp : Int)]] w6 fun e w' => e = .returned (.tuple #[]) ∧ RfTo w6 r own w' (X.set f ⟨v.bytes ++ b, v.kept⟩) from hst' ▸ hkp ▸ hset)
  have HSL := hid (show ∀ w6, Grows w2 w6 → (convert 31 9 (.slice A3 ln c3)).run Tryz.prog w6 = .ok (.string tb) w6 from htb ▸ hsl)
  rw [hnl] at hiI z2w HC
  rw [hfl'] at hfI z1w HC
  rw [hsb, hkp] at HC
  have HST := hid hst
  have HSS := hid (And.intro hss hts)
  clear hat hs hX hXk hgd hFX hn hfv hv hil hfl hc hset hvb hnl hfl' hsb htb hst hst' hss hts hsl hkp z4w z5w c2 c8 z1w
  go_wp2_with (fail)
  refine Zh (E := Grows) 22 [Za (.pointer (some ⟨r, 0, none⟩)), Za (.int .i64 (f : Int)), Za (.pointer (some ⟨r, 0, none⟩)), Za (.pointer (some ⟨r, 0, none⟩)), Za (.pointer (some ⟨r, 1, none⟩)), Za (.slice (some ⟨gf, 0, none⟩) fl cf), Za (.int .i64 (f : Int)), Za (.pointer (some ⟨gf, f * 2, none⟩)), Za (.pointer (some ⟨gf, f * 2, none⟩)), Za (.string sb), Za (.slice A3 ln c3), Za (.string tb), Za (.string st), Za (.pointer (some ⟨r, 0, none⟩)), Za (.pointer (some ⟨r, 0, none⟩)), Za (.pointer (some ⟨r, 1, none⟩)), Za (.slice (some ⟨gf, 0, none⟩) fl cf), Za (.int .i64 (f : Int)), Za (.pointer (some ⟨gf, f * 2, none⟩)), Za (.pointer (some ⟨gf, f * 2 + 1, none⟩)), Za (.int .i64 (kp : Int)), Za (.agg #[.string st, .int .i64 (kp : Int)])] mixed (by kernel_rfl) (fun _ _ _ => Grows.trans) (Ze _) ?_
  simp only [List.take_succ_cons, List.take_zero, List.drop_succ_cons, List.drop_zero]
  iterate 5
   refine f_val _ (by rfl) ?_ ?_
   ·intro w' hC; clear hC; go_simp
   simp only [Pu]
  refine f_val _ (by rfl) ?_ ?_
  ·intro w' hC; obtain ⟨z1, z2, z3, z4, z5⟩ := HC.out w' hC; clear hC; go_simp
  simp only [Pu]
  iterate 3
   refine f_val _ (by rfl) ?_ ?_
   ·intro w' hC; clear hC; go_simp
   simp only [Pu]
  refine f_val _ (by rfl) ?_ ?_
  ·intro w' hC; obtain ⟨z1, z2, z3, z4, z5⟩ := HC.out w' hC; clear hC; go_simp
  simp only [Pu]
  refine f_val _ (by rfl) ?_ ?_
  ·intro w' hC; clear hC; go_simp
  simp only [Pu]
  refine f_val _ (by rfl) ?_ ?_
  ·intro w' hC; have hs := HSL.out w' hC; clear hC; go_simp
  simp only [Pu]
  refine f_val _ (by rfl) ?_ ?_
  ·intro w' hC; have h1 := HSS.out.1; have h2 := HSS.out.2; clear hC; first | (go_simp; rw [if_neg (by omega), HST.out]; done)
  simp only [Pu]
  iterate 3
   refine f_val _ (by rfl) ?_ ?_
   ·intro w' hC; clear hC; go_simp
   simp only [Pu]
  refine f_val _ (by rfl) ?_ ?_
  ·intro w' hC; obtain ⟨z1, z2, z3, z4, z5⟩ := HC.out w' hC; clear hC; go_simp
  simp only [Pu]
  iterate 3
   refine f_val _ (by rfl) ?_ ?_
   ·intro w' hC; clear hC; go_simp
   simp only [Pu]
  refine f_val _ (by rfl) ?_ ?_
  ·intro w' hC; obtain ⟨z1, z2, z3, z4, z5⟩ := HC.out w' hC; clear hC; go_simp
  simp only [Pu]
  refine f_val _ (by rfl) ?_ ?_
  ·intro w' hC; clear hC; go_simp
  simp only [Pu]
  refine Zv ?_
  intro w6 hC hks
  have HCw6 := hid hC
  clear hC hks
  go_wp2_with (fail)
  refine (HSET.out w6 HCw6.out).mono ?_
  rintro e w7 ⟨rfl, hto⟩
  have HTO := hid hto
  clear hto
  go_wp2_with (fail)
  go_ret
  refine ⟨rfl, ?_⟩
  have hfin := RfTo.behind H.out.ro ((Zc.grows HCw5.out).trans (HAT.out.2.trans (Zc.grows HCw6.out))) HTO.out
  rw [HX.out.2.2, ← HX.out.1]
  exact hfin
 ·rw [if_neg (show ¬ m.thing.2 = 0 by rw [htc]; exact hz)]
  have hzb : (tc == 0) = false := by rw [beq_eq_false_iff_ne]; exact hz
  clear h hA hrw hF hd hf hx' htc hi hkeep hus hms hlb
  go_enter Tryz.func57, Tryz.ntmps57
  go_wp2_with (fail)
  refine HFI.out.mono ?_
  rintro e w1 ⟨rfl, rfl⟩
  go_wp2_with (fail)
  refine Zf (E := Grows) [Za (.slice A3 ln c3), Za (.int .i64 (ln : Int)), Za (.pointer (some ⟨r, 0, none⟩)), Za (.pointer (some ⟨r, 0, none⟩)), Za (.pointer (some ⟨r, 0, none⟩)), Za (.int .i64 ms), Za (.pointer (some ⟨r, 0, none⟩)), Za (.int .i64 (us : Nat)), Za (.int .i64 dd), Za (.bool false)] (by kernel_rfl) (by kernel_rfl) (fun _ _ _ => Grows.trans) (Ze _) ?_
  iterate 5
   refine f_val _ (by rfl) ?_ ?_
   ·intro w' hC; clear hC; go_simp
   simp only [Pu]
  refine f_val _ (by rfl) ?_ ?_
  ·intro w' hC; have z0 := H0.out w' hC; clear hC; go_simp
  simp only [Pu]
  refine f_val _ (by rfl) ?_ ?_
  ·intro w' hC; clear hC; go_simp
  simp only [Pu]
  refine Jb 12 #[.pointer (some ⟨r, 0, none⟩)] (.int .i64 (us : Nat)) (by rfl) (by intro w' hC; clear hC; go_simp) ?_ ?_
  ·intro w' hC hks; exact HUS.out w' hC
  simp only [Pu]
  iterate 2
   refine f_val _ (by rfl) ?_ ?_
   ·intro w' hC; clear hC; go_simp
   simp only [Pu]
  intro w5 hC _
  have HCw5 := hid hC
  clear hC
  go_wp2_with (fail)
  refine (HTH.out w5 HCw5.out).mono ?_
  rintro e w2 ⟨rfl, X, hX, hat, hs⟩
  have HAT := hid (And.intro hat hs)
  have HX := hid hX
  clear hat hs hX
  go_wp2_with (fail)
  go_ret
  refine ⟨by rw [HTC.out]; rfl, ?_⟩
  rw [← HX.out]
  exact RfTo.same HAT.out.1 ((Zc.grows HCw5.out).trans HAT.out.2) H.out.ro
end
set_option maxHeartbeats 4000000 in
set_option maxRecDepth 100000 in
theorem Zoo (w : World) (x : Int) : Calls Tryz.prog 6 #[.int .i64 x] w fun e w' => e = .returned (.pointer (some ⟨w.heap.size, 0, none⟩)) ∧ RfAt w' w.heap.size (fun k => k = w.heap.size) (Rf.new x) (.slice none 0 0) (.slice none 0 0) (.slice none 0 0) (.slice none 0 0) ∧ Grows w w' := by
 have HAT := Lib.hid (show RfAt (w.alloc (.cells (Y3 (Rf.new x) (.slice none 0 0) (.slice none 0 0) (.slice none 0 0) (.slice none 0 0)) 64)) w.heap.size (fun k => k = w.heap.size) (Rf.new x) (.slice none 0 0) (.slice none 0 0) (.slice none 0 0) (.slice none 0 0) ∧ Grows w (w.alloc (.cells (Y3 (Rf.new x) (.slice none 0 0) (.slice none 0 0) (.slice none 0 0) (.slice none 0 0)) 64)) from
  ⟨⟨Whole.made _ _ _, rfl, fun k hk => by rw [hk, World.size_alloc]; exact Nat.lt_succ_self _, ⟨rfl, .inl ⟨rfl, rfl⟩⟩, fun k hk => (by cases hk), ⟨rfl, .inl ⟨rfl, rfl⟩⟩, fun k hk => (by cases hk), ⟨rfl, .inl ⟨rfl, rfl⟩⟩, fun k hk => (by cases hk), ⟨rfl, .inl ⟨rfl, rfl⟩⟩, fun k hk => (by cases hk)⟩, Zb _ _⟩)
 rcases Int.lt_or_le 0 x with h0 | h0
 ·have e0 : max x 0 = x := by omega
  rcases Int.lt_or_le x 67108864 with h1 | h1
  ·have e1 : min x 67108864 = x := by omega
   have HE := Lib.hid (show Rf.new x = ⟨x, [], [], [], [], 0, -1, -1, false⟩ by unfold Rf.new; rw [e0, e1])
   go_enter Tryz.func6, Tryz.ntmps6
   go_wp2
   go_ret
   rw [HE.out] at HAT ⊢
   exact ⟨rfl, HAT.out⟩
  ·have e1 : min x 67108864 = 67108864 := by omega
   have HE := Lib.hid (show Rf.new x = ⟨67108864, [], [], [], [], 0, -1, -1, false⟩ by unfold Rf.new; rw [e0, e1])
   go_enter Tryz.func6, Tryz.ntmps6
   go_wp2
   go_ret
   rw [HE.out] at HAT ⊢
   exact ⟨rfl, HAT.out⟩
 ·have e0 : max x 0 = 0 := by omega
  have HE := Lib.hid (show Rf.new x = ⟨0, [], [], [], [], 0, -1, -1, false⟩ by unfold Rf.new; rw [e0]; rfl)
  go_enter Tryz.func6, Tryz.ntmps6
  go_wp2
  go_ret
  rw [HE.out] at HAT ⊢
  exact ⟨rfl, HAT.out⟩
/-! How long the names can get. -/
theorem Zib (x : Nm) (l : Dir) : (Dir.del x l).length ≤ l.length := List.length_filter_le _ _
theorem Zfp (e : Nm × Nat) : ∀ l : Dir, (rput e l).length ≤ l.length + 1
 | [] => Nat.le_refl _
 | y :: r => by
   unfold rput
   split
   ·have := Zfp e r
    simp only [List.length_cons]
    omega
   ·have := Zib e.1 (y :: r)
    simp only [List.length_cons] at this ⊢
    omega
theorem Zlq (c : Ch) (l : Dir) : (rdoes c l).length ≤ l.length + 1 := by
 cases c with
 | made n f => exact Zfp _ _
 | taken n => exact Nat.le_trans (Zib _ _) (Nat.le_succ _)
 | moved n to =>
   show (match Dir.find n l with | some f => rput (to, f) (Dir.del n l) | none => l).length ≤ _
   split
   ·exact Nat.le_trans (Zfp _ _) (Nat.succ_le_succ (Zib _ _))
   ·exact Nat.le_succ _
theorem rredo_len : ∀ (cs : List Ch) (l : Dir), (rredo cs l).length ≤ l.length + cs.length
 | [], l => Nat.le_refl _
 | c :: cs, l => by
   have h1 := rredo_len cs (rdoes c l)
   have h2 := Zlq c l
   show (rredo cs (rdoes c l)).length ≤ _
   simp only [List.length_cons]
   omega
end Go.Proofs.YtlldcogkcjnejaaGreat
