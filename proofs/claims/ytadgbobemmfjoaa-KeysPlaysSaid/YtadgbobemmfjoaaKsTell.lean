/-
  What From's closure does with a key that it is told.
-/
import Derived.Test.YtadgbobemmfjoaaKsFirst
import Derived.Laws.Cover1
namespace Go.Proofs.Ytadgbobemmfjoaa
open Go.RowKit
set_option linter.unusedVariables false
set_option linter.unusedSimpArgs false

structure FromB (W0 : World) (kb cb tb lb mb : Nat) (key : List UInt8) (m : Nat) : Prop where
  key : Boxed W0 kb 9 (kS key)
  many : Boxed W0 mb 3 (.int .i64 (m : Nat))
  apart : kb ≠ cb ∧ kb ≠ tb ∧ kb ≠ lb ∧ mb ≠ cb ∧ mb ≠ tb ∧ mb ≠ lb ∧ cb ≠ tb ∧ cb ≠ lb ∧ tb ≠ lb
  lt : cb < W0.heap.size ∧ tb < W0.heap.size ∧ lb < W0.heap.size
def FromJ (W0 : World) (cb tb lb : Nat) (key : List UInt8) (m : Nat) (t : Ks) (w : World) : Prop :=
  ∃ (l : Ks) (cut : Bool) (last : List UInt8) (A : Option Addr) (n c : Nat), (Boxed w cb 4 (.bool cut) ∧ Boxed w tb 9 (kS last) ∧ Boxed w lb 38 (.slice A n c)) ∧ OwnS w W0.heap.size A n c l ∧ Frm key m t l cut last ∧ Spares (fun k => k = cb ∨ k = tb ∨ k = lb) W0 w
theorem FromJ.grow {W0 : World} {cb tb lb : Nat} {key : List UInt8} {m : Nat} {t : Ks} {w w' : World} (h : FromJ W0 cb tb lb key m t w) (hg : Grows w w') : FromJ W0 cb tb lb key m t w' := by
  obtain ⟨l, cut, last, A, n, c, ⟨h1, h2, h3⟩, h4, h5, h6⟩ := h
  exact ⟨l, cut, last, A, n, c, ⟨hg.whole h1, hg.whole h2, hg.whole h3⟩, owned_grow h4 hg, h5, h6.trans (Spares.grows hg)⟩
theorem kless : ∀ x y : List UInt8, Op.bytesLess x y = bytesBefore x y
  | [], [] => by simp [Op.bytesLess, bytesBefore]
  | [], _ :: _ => by simp [Op.bytesLess, bytesBefore]
  | _ :: _, [] => by simp [Op.bytesLess, bytesBefore]
  | x :: r, y :: s => by
    have ih := kless r s
    simp [Op.bytesLess, bytesBefore, ih]
theorem kgtr (x y : List UInt8) : (!(Op.bytesLess x y || x == y)) = bytesBefore y x := by
  rw [kless]
  by_cases e : x = y
  · subst e; rw [kbef_irrefl]; simp
  · have h1 : (x == y) = false := by simpa using e
    rw [h1, Bool.or_false]
    rcases h : bytesBefore x y with _ | _
    · rw [kbef_total h e]; rfl
    · rw [kbef_asymm h]; rfl
theorem app_key {w : World} {ty B : Nat} {A : Option Addr} {n c : Nat} {l : Ks} (ho : OwnS w B A n c l) {g t0 : Nat} (k : List UInt8) (hw : Whole w g t0 #[.string ⟨k.toArray⟩]) (hn : n < 1000000) (hB : B ≤ w.heap.size) :
    ∃ A' c' w', (Builtin.append_ #[38, 38] ty #[.slice A n c, .slice (some ⟨g, 0, none⟩) 1 1]).run Try.prog w = .ok (.slice A' (n + 1) c') w' ∧ OwnS w' B A' (n + 1) c' (l ++ [k]) ∧ w.grownBy w' (Value.slice A n c).ownBlock := by
  obtain ⟨i0, hi0, hz0, hz1, hz2⟩ := info_of infoS
  have hcell : ∀ (j : Nat) (u : Value), ([k].map kS)[j]? = some u → w.cell? ((⟨g, 0, none⟩ : Addr).add j) = some u := fun j u hj => by
    rw [show (⟨g, 0, none⟩ : Addr).add j = ⟨g, j, none⟩ by unfold Addr.add; split <;> simp_all, hw.cell j, List.getElem?_toArray]
    exact hj
  obtain ⟨v', w', hr, h2, h3, _, _⟩ := run_append_own_at (P := Try.prog) (w := w) B 38 ty 9 i0 (.string ⟨#[]⟩) 1 16 Try.underlying38 hi0 hz0 hz1 hz2 rfl (by omega) (.slice A n c) n (l.map kS) ho ⟨g, 0, none⟩ 1 1 ([k].map kS) rfl hcell (kS_one [k]) (by unfold maxLen; omega) (by omega) hB
  obtain ⟨A', c', rfl⟩ := slice_ownP h2
  rw [← List.map_append] at h2
  exact ⟨A', c', w', hr, h2, h3⟩
theorem FromJ.cutted {W0 W5 : World} {cb tb lb : Nat} {key : List UInt8} {m : Nat} {t l : Ks} {cut : Bool} {last x : List UInt8} {A : Option Addr} {c : Nat} (hap : cb ≠ tb ∧ cb ≠ lb ∧ tb ≠ lb) (hlt : cb < W0.heap.size ∧ tb < W0.heap.size)
    (l5 : Boxed W5 lb 38 (.slice A m c)) (c5 : Boxed W5 cb 4 (.bool cut)) (t5 : Boxed W5 tb 9 (kS last)) (ho : OwnS W5 W0.heap.size A m c (fm m l)) (hs : Spares (fun q => q = cb ∨ q = tb ∨ q = lb) W0 W5) (hF : Frm key m t l cut last) (hm : m ≤ l.length) (hx : (fm m l)[m - 1]? = some x) :
    FromJ W0 cb tb lb key m t ((W5.setCell ⟨cb, 0, none⟩ (.bool true)).setCell ⟨tb, 0, none⟩ (.string ⟨x.toArray⟩)).drew := by
  have hoth : ∀ q, q ≠ cb → q ≠ tb → ((W5.setCell ⟨cb, 0, none⟩ (.bool true)).setCell ⟨tb, 0, none⟩ (.string ⟨x.toArray⟩)).drew.heap[q]? = W5.heap[q]? := fun q h1 h2 => (heap_setCell_other (W5.setCell ⟨cb, 0, none⟩ (.bool true)) ⟨tb, 0, none⟩ q _ (fun e => h2 (by simpa using e))).trans (heap_setCell_other W5 ⟨cb, 0, none⟩ q _ (fun e => h1 (by simpa using e)))
  have c6 : Whole (W5.setCell ⟨cb, 0, none⟩ (.bool true)) cb 4 #[.bool true] := Whole.put c5 0 _
  have t6 : Whole (W5.setCell ⟨cb, 0, none⟩ (.bool true)) tb 9 #[kS last] := (heap_setCell_other W5 ⟨cb, 0, none⟩ tb _ (fun e => hap.1 (by simpa using e.symm))).trans t5
  refine ⟨fm m l, true, x, A, m, c, ⟨?_, ?_, (hoth lb (Ne.symm hap.2.1) (Ne.symm hap.2.2)).trans l5⟩, owned_same3 ho fun q hq => hoth q ?_ ?_, hF.cutAt hm hx, ?_⟩
  · exact (heap_setCell_other (W5.setCell ⟨cb, 0, none⟩ (.bool true)) ⟨tb, 0, none⟩ cb _ (fun e => hap.1 (by simpa using e))).trans c6
  · exact Whole.put t6 0 _
  · have := (owned_lt3 ho hq).1; omega
  · have := (owned_lt3 ho hq).1; omega
  · exact ⟨hs.os, hs.tape, hs.output, by have := hs.size; simpa using this, fun q hq hne => (hoth q (by omega) (by omega)).trans (hs.same q hq hne)⟩
set_option maxHeartbeats 2000000 in
set_option maxRecDepth 100000 in
theorem tell_any {W0 : World} {kb cb tb lb mb : Nat} {key : List UInt8} {m : Nat} {t : Ks} (k : List UInt8) (w : World) (hB : FromB W0 kb cb tb lb mb key m) (hm : m ≤ 9223372036854775807) (h : FromJ W0 cb tb lb key m t w) (ht : t.length < 1000000) :
    Calls Try.prog 33 #[.string ⟨k.toArray⟩, .pointer (some ⟨kb, 0, none⟩), .pointer (some ⟨cb, 0, none⟩), .pointer (some ⟨tb, 0, none⟩), .pointer (some ⟨lb, 0, none⟩), .pointer (some ⟨mb, 0, none⟩)] w fun e w' => e = .returned (.tuple #[]) ∧ FromJ W0 cb tb lb key m (t ++ [k]) w' := by
  obtain ⟨l, cut, last, A, n, c, ⟨hb1, hb2, hb3⟩, ho, hF, hs⟩ := h
  have hk1 : Boxed w kb 9 (kS key) := (hs.same kb hB.key.lt (by have := hB.apart; omega)).trans hB.key
  have ck : w.cell? ⟨kb, 0, none⟩ = some (.string ⟨key.toArray⟩) := hk1.cell
  have cc := hb1.cell
  have ct : w.cell? ⟨tb, 0, none⟩ = some (.string ⟨last.toArray⟩) := hb2.cell
  have cl := hb3.cell
  have HX := Lib.hid (And.intro hB (And.intro (And.intro hb1 (And.intro hb2 hb3)) (And.intro ho (And.intro hF hs))))
  have e1 := kless k key
  have e2 := kgtr k last
  obtain ⟨r0, hr0⟩ : ∃ r, Op.bytesLess k key = r := ⟨_, rfl⟩
  obtain ⟨r1, hr1⟩ : ∃ r, Op.bytesLess k last = r := ⟨_, rfl⟩
  obtain ⟨r2, hr2⟩ : ∃ r, (k == last) = r := ⟨_, rfl⟩
  rw [hr0] at e1
  rw [hr1, hr2] at e2
  have HE := Lib.hid (And.intro e1 e2)
  clear hb1 hb2 hb3 hk1 hs hB ho hF e1 e2
  cases r0
  · cases cut
    · have hkey : bytesBefore k key = false := HE.out.1.symm
      have HKEY := Lib.hid hkey
      clear hkey
      have hg1 := grows_alloc w (.cells #[.string ⟨k.toArray⟩] 9)
      have hm1 := Whole.made w 9 #[.string ⟨k.toArray⟩]
      obtain ⟨W1, hW1⟩ : ∃ W1, w.alloc (.cells #[.string ⟨k.toArray⟩] 9) = W1 := ⟨_, rfl⟩
      rw [hW1] at hg1 hm1
      obtain ⟨hB, ⟨hb1, hb2, hb3⟩, ho, hF, hs⟩ := HX.out
      have hlen := OwnS.len ho
      have hFl := hF.len
      have hn1 : n < 1000000 := by omega
      have hBs : W0.heap.size ≤ W1.heap.size := Nat.le_trans hs.size hg1.size
      obtain ⟨A', c', W2, hrun, hown2, hgb⟩ := app_key (ty := 38) (owned_grow ho hg1) k hm1 hn1 hBs
      obtain ⟨gk, hgk⟩ : ∃ gk, w.heap.size = gk := ⟨_, rfl⟩
      rw [hgk] at hrun
      have hlo : ∀ q, q < W0.heap.size → W2.heap[q]? = w.heap[q]? := fun q hq => (hgb.block q (by omega) fun e => by have := (owned_lt3 ho e.symm).1; omega).trans (hg1.block q (by have := hs.size; omega))
      obtain ⟨hap, hlt⟩ := And.intro hB.apart hB.lt
      have hkl := hB.key.lt
      have hml := hB.many.lt
      have b2 : Boxed W2 lb 38 (.slice A n c) := (hlo lb hlt.2.2).trans hb3
      have x0 := b2.cell
      have f0 : W2.frozen? ⟨lb, 0, none⟩ = false := Whole.free b2 0
      obtain ⟨W3, hW3⟩ : ∃ W3, W2.setCell ⟨lb, 0, none⟩ (.slice A' (n + 1) c') = W3 := ⟨_, rfl⟩
      have hoth3 : ∀ q, q ≠ lb → W3.heap[q]? = W2.heap[q]? := fun q hq => by rw [← hW3]; exact heap_setCell_other W2 ⟨lb, 0, none⟩ q _ (fun e => hq (by simpa using e))
      have l3 : Boxed W3 lb 38 (.slice A' (n + 1) c') := by rw [← hW3]; exact Whole.put b2 0 _
      have hlo3 : ∀ q, q < W0.heap.size → q ≠ lb → W3.heap[q]? = w.heap[q]? := fun q hq hne => (hoth3 q hne).trans (hlo q hq)
      have c3 : Boxed W3 cb 4 (.bool false) := (hlo3 cb hlt.1 (by omega)).trans hb1
      have t3 : Boxed W3 tb 9 (kS last) := (hlo3 tb hlt.2.1 (by omega)).trans hb2
      have m3 : Boxed W3 mb 3 (.int .i64 (m : Nat)) := (hlo3 mb hml (by omega)).trans ((hs.same mb hml (by omega)).trans hB.many)
      have ho3 : OwnS W3 W0.heap.size A' (n + 1) c' (l ++ [k]) := owned_same3 hown2 fun q hq => hoth3 q fun e => by have := (owned_lt3 hown2 hq).1; omega
      have hz3 : W3.heap.size = W2.heap.size := by rw [← hW3]; simp
      have s3 : Spares (fun q => q = cb ∨ q = tb ∨ q = lb) W0 W3 := by
        refine ⟨?_, ?_, ?_, by have := hgb.size; omega, fun q hq hne => (hlo3 q hq (by omega)).trans (hs.same q hq hne)⟩
        · rw [← hW3]; exact hgb.os.trans (hg1.os.trans hs.os)
        · rw [← hW3]; exact hgb.tape.trans (hg1.tape.trans hs.tape)
        · rw [← hW3]; exact hgb.output.trans (hg1.output.trans hs.output)
      have hFm := hF.more HKEY.out (fun h => by cases h)
      have y0 := l3.cell
      have y1 := m3.cell
      have H3 := Lib.hid (And.intro l3 (And.intro c3 (And.intro t3 (And.intro m3 (And.intro ho3 (And.intro s3 hFm))))))
      have HRUN := Lib.hid hrun
      have HZ := Lib.hid (And.intro hap (And.intro hlt (And.intro hkl hml)))
      have HL := Lib.hid (show (l ++ [k]).length = n + 1 from by rw [List.length_append, hlen]; rfl)
      have HG := Lib.hid hgk
      obtain ⟨N, hN⟩ : ∃ N, n + 1 = N := ⟨_, rfl⟩
      have hNi : (n : Int) + 1 = (N : Int) := by omega
      obtain ⟨h2, hh2⟩ : ∃ h2, N / 2 = h2 := ⟨_, rfl⟩
      have hdi : (N : Int).tdiv 2 = (h2 : Int) := by rw [Int.tdiv_eq_ediv_of_nonneg (by omega)]; omega
      have hdi2 : (N : Int) / 2 = (h2 : Int) := by omega
      have hNb : N ≤ 1000000 := by omega
      have HNN := Lib.hid (And.intro hN hh2)
      have HWR := Lib.hid (wrapK (x := (h2 : Int)) (by omega) (by omega))
      rw [hN] at hW3 y0 H3 HRUN HL
      clear hg1 hm1 hB hb1 hb2 hb3 ho hF hs hlen hFl hn1 hBs hrun hown2 hgb hlo hap hlt hkl hml b2 hoth3 l3 hlo3 c3 t3 m3 ho3 hz3 s3 hFm hgk hN hh2
      by_cases hbig : m < h2
      · have hbi : (m : Int) < (h2 : Int) := by omega
        have HFI := Lib.hid (kfirst_any m W3 H3.out.2.2.2.2.1 (by omega) hm)
        have hmn : min m N = m := by have := HNN.out; omega
        have HMN := Lib.hid (show m ≤ N from by have := HNN.out; omega)
        rw [hmn] at HFI
        obtain ⟨wr1, wr2⟩ := HWR.out
        have hgk := HG.out
        go_enter Try.func33, Try.ntmps33
        go_wp2_with (first
          | rw [hW1]
          | (at_builtin; refine list_exec rfl (exec_appK rfl rfl rfl HRUN.out) ?_; simp only [Act.put, List.setIfInBounds_toArray, List.set_cons_zero, List.set_cons_succ])
          | rw [hW3]
          | fail)
        refine HFI.out.mono ?_
        rintro e w4 ⟨rfl, ho4, hs4⟩
        obtain ⟨l3, c3, t3, m3, ho3, s3, hFm⟩ := H3.out
        obtain ⟨hap, hlt, hkl, hml⟩ := HZ.out
        have hlo4 : ∀ q, q < W0.heap.size → w4.heap[q]? = W3.heap[q]? := fun q hq => hs4.same q (by have := s3.size; omega) fun e => by have := (owned_lt3 ho3 e).1; omega
        have b4 : Boxed w4 lb 38 (.slice A' N c') := (hlo4 lb hlt.2.2).trans l3
        have z0 := b4.cell
        have g0 : w4.frozen? ⟨lb, 0, none⟩ = false := Whole.free b4 0
        obtain ⟨W5, hW5⟩ : ∃ W5, w4.setCell ⟨lb, 0, none⟩ (.slice A' m c') = W5 := ⟨_, rfl⟩
        have hoth5 : ∀ q, q ≠ lb → W5.heap[q]? = w4.heap[q]? := fun q hq => by rw [← hW5]; exact heap_setCell_other w4 ⟨lb, 0, none⟩ q _ (fun e => hq (by simpa using e))
        have l5 : Boxed W5 lb 38 (.slice A' m c') := by rw [← hW5]; exact Whole.put b4 0 _
        have c5 : Boxed W5 cb 4 (.bool false) := (hoth5 cb (by omega)).trans ((hlo4 cb hlt.1).trans c3)
        have t5 : Boxed W5 tb 9 (kS last) := (hoth5 tb (by omega)).trans ((hlo4 tb hlt.2.1).trans t3)
        have m5 : Boxed W5 mb 3 (.int .i64 (m : Nat)) := (hoth5 mb (by omega)).trans ((hlo4 mb hml).trans m3)
        have ho5 : OwnS W5 W0.heap.size A' m c' (fm m (l ++ [k])) := owned_same3 ho4 fun q hq => hoth5 q fun e => by have := (owned_lt3 ho4 hq).1; omega
        have hz5 : W5.heap.size = w4.heap.size := by rw [← hW5]; simp
        have s5 : Spares (fun q => q = cb ∨ q = tb ∨ q = lb) W0 W5 := by
          refine ⟨?_, ?_, ?_, by have := hs4.size; have := s3.size; omega, fun q hq hne => (hoth5 q (by omega)).trans ((hlo4 q hq).trans (s3.same q hq hne))⟩
          · rw [← hW5]; exact hs4.os.trans s3.os
          · rw [← hW5]; exact hs4.tape.trans s3.tape
          · rw [← hW5]; exact hs4.output.trans s3.output
        have hmp := hFm.pos
        have hlen5 := OwnS.len ho5
        obtain ⟨ga, rfl⟩ : ∃ ga, A' = some ⟨ga, 0, none⟩ := by
          rcases ho5.2 with ⟨e, e2⟩ | ⟨g, cap, cur, e, _⟩
          · omega
          · injection e with e1 e2 e3; exact ⟨g, e1⟩
        obtain ⟨x, hx⟩ : ∃ x, (fm m (l ++ [k]))[m - 1]? = some x := ⟨_, List.getElem?_eq_getElem (by omega)⟩
        have hcell : W5.cell? ⟨ga, m - 1, none⟩ = some (.string ⟨x.toArray⟩) := by
          have h1 := ho5.cells (g := ga) rfl (m - 1) (kS x) (by rw [List.getElem?_map, hx]; rfl)
          rw [show (⟨ga, 0, none⟩ : Addr).add (m - 1) = ⟨ga, m - 1, none⟩ by unfold Addr.add; split <;> simp_all] at h1
          exact h1
        have q0 := l5.cell
        have q1 := m5.cell
        have q2 := c5.cell
        have q3 : W5.cell? ⟨tb, 0, none⟩ = some (.string ⟨last.toArray⟩) := t5.cell
        have u2 : W5.frozen? ⟨cb, 0, none⟩ = false := Whole.free c5 0
        have u3 : W5.frozen? ⟨tb, 0, none⟩ = false := Whole.free t5 0
        obtain ⟨M1, hM1⟩ : ∃ M1, m - 1 = M1 := ⟨_, rfl⟩
        rw [hM1] at hcell
        have hMi : (m : Int) - 1 = (M1 : Int) := by omega
        have hMa : (0 : Int) ≤ (M1 : Int) := by omega
        have hMb : (M1 : Int) < (m : Int) := by omega
        have HWM := Lib.hid (wrapK (x := (M1 : Int)) (by omega) (by omega))
        have hne1 := hap.2.2.2.2.2.2.1
        have hne2 : ga ≠ cb := fun e => by have := (owned_lt3 ho5 (k := ga) rfl).1; omega
        have hne3 : ga ≠ tb := fun e => by have := (owned_lt3 ho5 (k := ga) rfl).1; omega
        have hne4 := hap.2.2.2.2.2.2.2.1
        have hne5 := hap.2.2.2.2.2.2.2.2
        have hne6 := hap.2.2.2.1
        have hne7 := hap.2.2.2.2.1
        have H5 := Lib.hid (And.intro l5 (And.intro c5 (And.intro t5 (And.intro ho5 (And.intro s5 (And.intro hFm hx))))))
        obtain ⟨wm1, wm2⟩ := HWM.out
        clear ho4 hs4 l3 c3 t3 m3 ho3 s3 hFm hap hlt hkl hml hlo4 b4 hoth5 l5 c5 t5 m5 ho5 hz5 s5 hmp hlen5 hx hM1 hgk
        go_wp2_with (first | rw [hW5] | fail)
        clear hW1 hW3 hW5 z0 g0
        go_region
        go_wp2_with (fail)
        refine bodyPost_end (results_none rfl _ _ _) rfl ?_
        obtain ⟨l5, c5, t5, ho5, s5, hFm, hx⟩ := H5.out
        obtain ⟨hap, hlt, _⟩ := HZ.out
        exact ⟨rfl, FromJ.cutted ⟨hap.2.2.2.2.2.2.1, hap.2.2.2.2.2.2.2.1, hap.2.2.2.2.2.2.2.2⟩ ⟨hlt.1, hlt.2.1⟩ l5 c5 t5 ho5 s5 hFm (by rw [HL.out]; exact HMN.out) hx⟩
      · have hbi : ¬ (m : Int) < (h2 : Int) := by omega
        obtain ⟨wr1, wr2⟩ := HWR.out
        have hgk := HG.out
        go_enter Try.func33, Try.ntmps33
        go_wp2_with (first
          | rw [hW1]
          | (at_builtin; refine list_exec rfl (exec_appK rfl rfl rfl HRUN.out) ?_; simp only [Act.put, List.setIfInBounds_toArray, List.set_cons_zero, List.set_cons_succ])
          | rw [hW3]
          | fail)
        refine bodyPost_end (results_none rfl _ _ _) rfl ?_
        obtain ⟨l3, c3, t3, m3, ho3, s3, hFm⟩ := H3.out
        exact ⟨rfl, _, false, last, A', N, c', ⟨c3, t3, l3⟩, ho3, hFm, s3⟩
    · cases r1
      · cases r2
        · have hlast : bytesBefore last k = true := HE.out.2.symm
          have HLAST := Lib.hid hlast
          clear hlast
          go_enter Try.func33, Try.ntmps33
          go_wp2_with (fail)
          refine bodyPost_ret (results_none rfl _ _ _) rfl ?_
          obtain ⟨hB, ⟨hb1, hb2, hb3⟩, ho, hF, hs⟩ := HX.out
          exact ⟨rfl, l, true, last, A, n, c, ⟨hb1, hb2, hb3⟩, ho, hF.high HLAST.out, hs⟩
        · have hkey : bytesBefore k key = false ∧ bytesBefore last k = false := ⟨HE.out.1.symm, HE.out.2.symm⟩
          have HKEY := Lib.hid hkey
          clear hkey
          have hg1 := grows_alloc w (.cells #[.string ⟨k.toArray⟩] 9)
          have hm1 := Whole.made w 9 #[.string ⟨k.toArray⟩]
          obtain ⟨W1, hW1⟩ : ∃ W1, w.alloc (.cells #[.string ⟨k.toArray⟩] 9) = W1 := ⟨_, rfl⟩
          rw [hW1] at hg1 hm1
          obtain ⟨hB, ⟨hb1, hb2, hb3⟩, ho, hF, hs⟩ := HX.out
          have hlen := OwnS.len ho
          have hFl := hF.len
          have hn1 : n < 1000000 := by omega
          have hBs : W0.heap.size ≤ W1.heap.size := Nat.le_trans hs.size hg1.size
          obtain ⟨A', c', W2, hrun, hown2, hgb⟩ := app_key (ty := 38) (owned_grow ho hg1) k hm1 hn1 hBs
          obtain ⟨gk, hgk⟩ : ∃ gk, w.heap.size = gk := ⟨_, rfl⟩
          rw [hgk] at hrun
          have hlo : ∀ q, q < W0.heap.size → W2.heap[q]? = w.heap[q]? := fun q hq => (hgb.block q (by omega) fun e => by have := (owned_lt3 ho e.symm).1; omega).trans (hg1.block q (by have := hs.size; omega))
          obtain ⟨hap, hlt⟩ := And.intro hB.apart hB.lt
          have hkl := hB.key.lt
          have hml := hB.many.lt
          have b2 : Boxed W2 lb 38 (.slice A n c) := (hlo lb hlt.2.2).trans hb3
          have x0 := b2.cell
          have f0 : W2.frozen? ⟨lb, 0, none⟩ = false := Whole.free b2 0
          obtain ⟨W3, hW3⟩ : ∃ W3, W2.setCell ⟨lb, 0, none⟩ (.slice A' (n + 1) c') = W3 := ⟨_, rfl⟩
          have hoth3 : ∀ q, q ≠ lb → W3.heap[q]? = W2.heap[q]? := fun q hq => by rw [← hW3]; exact heap_setCell_other W2 ⟨lb, 0, none⟩ q _ (fun e => hq (by simpa using e))
          have l3 : Boxed W3 lb 38 (.slice A' (n + 1) c') := by rw [← hW3]; exact Whole.put b2 0 _
          have hlo3 : ∀ q, q < W0.heap.size → q ≠ lb → W3.heap[q]? = w.heap[q]? := fun q hq hne => (hoth3 q hne).trans (hlo q hq)
          have c3 : Boxed W3 cb 4 (.bool true) := (hlo3 cb hlt.1 (by omega)).trans hb1
          have t3 : Boxed W3 tb 9 (kS last) := (hlo3 tb hlt.2.1 (by omega)).trans hb2
          have m3 : Boxed W3 mb 3 (.int .i64 (m : Nat)) := (hlo3 mb hml (by omega)).trans ((hs.same mb hml (by omega)).trans hB.many)
          have ho3 : OwnS W3 W0.heap.size A' (n + 1) c' (l ++ [k]) := owned_same3 hown2 fun q hq => hoth3 q fun e => by have := (owned_lt3 hown2 hq).1; omega
          have hz3 : W3.heap.size = W2.heap.size := by rw [← hW3]; simp
          have s3 : Spares (fun q => q = cb ∨ q = tb ∨ q = lb) W0 W3 := by
            refine ⟨?_, ?_, ?_, by have := hgb.size; omega, fun q hq hne => (hlo3 q hq (by omega)).trans (hs.same q hq hne)⟩
            · rw [← hW3]; exact hgb.os.trans (hg1.os.trans hs.os)
            · rw [← hW3]; exact hgb.tape.trans (hg1.tape.trans hs.tape)
            · rw [← hW3]; exact hgb.output.trans (hg1.output.trans hs.output)
          have hFm := hF.more HKEY.out.1 (fun _ => HKEY.out.2)
          have y0 := l3.cell
          have y1 := m3.cell
          have H3 := Lib.hid (And.intro l3 (And.intro c3 (And.intro t3 (And.intro m3 (And.intro ho3 (And.intro s3 hFm))))))
          have HRUN := Lib.hid hrun
          have HZ := Lib.hid (And.intro hap (And.intro hlt (And.intro hkl hml)))
          have HL := Lib.hid (show (l ++ [k]).length = n + 1 from by rw [List.length_append, hlen]; rfl)
          have HG := Lib.hid hgk
          obtain ⟨N, hN⟩ : ∃ N, n + 1 = N := ⟨_, rfl⟩
          have hNi : (n : Int) + 1 = (N : Int) := by omega
          obtain ⟨h2, hh2⟩ : ∃ h2, N / 2 = h2 := ⟨_, rfl⟩
          have hdi : (N : Int).tdiv 2 = (h2 : Int) := by rw [Int.tdiv_eq_ediv_of_nonneg (by omega)]; omega
          have hdi2 : (N : Int) / 2 = (h2 : Int) := by omega
          have hNb : N ≤ 1000000 := by omega
          have HNN := Lib.hid (And.intro hN hh2)
          have HWR := Lib.hid (wrapK (x := (h2 : Int)) (by omega) (by omega))
          rw [hN] at hW3 y0 H3 HRUN HL
          clear hg1 hm1 hB hb1 hb2 hb3 ho hF hs hlen hFl hn1 hBs hrun hown2 hgb hlo hap hlt hkl hml b2 hoth3 l3 hlo3 c3 t3 m3 ho3 hz3 s3 hFm hgk hN hh2
          by_cases hbig : m < h2
          · have hbi : (m : Int) < (h2 : Int) := by omega
            have HFI := Lib.hid (kfirst_any m W3 H3.out.2.2.2.2.1 (by omega) hm)
            have hmn : min m N = m := by have := HNN.out; omega
            have HMN := Lib.hid (show m ≤ N from by have := HNN.out; omega)
            rw [hmn] at HFI
            obtain ⟨wr1, wr2⟩ := HWR.out
            have hgk := HG.out
            go_enter Try.func33, Try.ntmps33
            go_wp2_with (first
              | rw [hW1]
              | (at_builtin; refine list_exec rfl (exec_appK rfl rfl rfl HRUN.out) ?_; simp only [Act.put, List.setIfInBounds_toArray, List.set_cons_zero, List.set_cons_succ])
              | rw [hW3]
              | fail)
            refine HFI.out.mono ?_
            rintro e w4 ⟨rfl, ho4, hs4⟩
            obtain ⟨l3, c3, t3, m3, ho3, s3, hFm⟩ := H3.out
            obtain ⟨hap, hlt, hkl, hml⟩ := HZ.out
            have hlo4 : ∀ q, q < W0.heap.size → w4.heap[q]? = W3.heap[q]? := fun q hq => hs4.same q (by have := s3.size; omega) fun e => by have := (owned_lt3 ho3 e).1; omega
            have b4 : Boxed w4 lb 38 (.slice A' N c') := (hlo4 lb hlt.2.2).trans l3
            have z0 := b4.cell
            have g0 : w4.frozen? ⟨lb, 0, none⟩ = false := Whole.free b4 0
            obtain ⟨W5, hW5⟩ : ∃ W5, w4.setCell ⟨lb, 0, none⟩ (.slice A' m c') = W5 := ⟨_, rfl⟩
            have hoth5 : ∀ q, q ≠ lb → W5.heap[q]? = w4.heap[q]? := fun q hq => by rw [← hW5]; exact heap_setCell_other w4 ⟨lb, 0, none⟩ q _ (fun e => hq (by simpa using e))
            have l5 : Boxed W5 lb 38 (.slice A' m c') := by rw [← hW5]; exact Whole.put b4 0 _
            have c5 : Boxed W5 cb 4 (.bool true) := (hoth5 cb (by omega)).trans ((hlo4 cb hlt.1).trans c3)
            have t5 : Boxed W5 tb 9 (kS last) := (hoth5 tb (by omega)).trans ((hlo4 tb hlt.2.1).trans t3)
            have m5 : Boxed W5 mb 3 (.int .i64 (m : Nat)) := (hoth5 mb (by omega)).trans ((hlo4 mb hml).trans m3)
            have ho5 : OwnS W5 W0.heap.size A' m c' (fm m (l ++ [k])) := owned_same3 ho4 fun q hq => hoth5 q fun e => by have := (owned_lt3 ho4 hq).1; omega
            have hz5 : W5.heap.size = w4.heap.size := by rw [← hW5]; simp
            have s5 : Spares (fun q => q = cb ∨ q = tb ∨ q = lb) W0 W5 := by
              refine ⟨?_, ?_, ?_, by have := hs4.size; have := s3.size; omega, fun q hq hne => (hoth5 q (by omega)).trans ((hlo4 q hq).trans (s3.same q hq hne))⟩
              · rw [← hW5]; exact hs4.os.trans s3.os
              · rw [← hW5]; exact hs4.tape.trans s3.tape
              · rw [← hW5]; exact hs4.output.trans s3.output
            have hmp := hFm.pos
            have hlen5 := OwnS.len ho5
            obtain ⟨ga, rfl⟩ : ∃ ga, A' = some ⟨ga, 0, none⟩ := by
              rcases ho5.2 with ⟨e, e2⟩ | ⟨g, cap, cur, e, _⟩
              · omega
              · injection e with e1 e2 e3; exact ⟨g, e1⟩
            obtain ⟨x, hx⟩ : ∃ x, (fm m (l ++ [k]))[m - 1]? = some x := ⟨_, List.getElem?_eq_getElem (by omega)⟩
            have hcell : W5.cell? ⟨ga, m - 1, none⟩ = some (.string ⟨x.toArray⟩) := by
              have h1 := ho5.cells (g := ga) rfl (m - 1) (kS x) (by rw [List.getElem?_map, hx]; rfl)
              rw [show (⟨ga, 0, none⟩ : Addr).add (m - 1) = ⟨ga, m - 1, none⟩ by unfold Addr.add; split <;> simp_all] at h1
              exact h1
            have q0 := l5.cell
            have q1 := m5.cell
            have q2 := c5.cell
            have q3 : W5.cell? ⟨tb, 0, none⟩ = some (.string ⟨last.toArray⟩) := t5.cell
            have u2 : W5.frozen? ⟨cb, 0, none⟩ = false := Whole.free c5 0
            have u3 : W5.frozen? ⟨tb, 0, none⟩ = false := Whole.free t5 0
            obtain ⟨M1, hM1⟩ : ∃ M1, m - 1 = M1 := ⟨_, rfl⟩
            rw [hM1] at hcell
            have hMi : (m : Int) - 1 = (M1 : Int) := by omega
            have hMa : (0 : Int) ≤ (M1 : Int) := by omega
            have hMb : (M1 : Int) < (m : Int) := by omega
            have HWM := Lib.hid (wrapK (x := (M1 : Int)) (by omega) (by omega))
            have hne1 := hap.2.2.2.2.2.2.1
            have hne2 : ga ≠ cb := fun e => by have := (owned_lt3 ho5 (k := ga) rfl).1; omega
            have hne3 : ga ≠ tb := fun e => by have := (owned_lt3 ho5 (k := ga) rfl).1; omega
            have hne4 := hap.2.2.2.2.2.2.2.1
            have hne5 := hap.2.2.2.2.2.2.2.2
            have hne6 := hap.2.2.2.1
            have hne7 := hap.2.2.2.2.1
            have H5 := Lib.hid (And.intro l5 (And.intro c5 (And.intro t5 (And.intro ho5 (And.intro s5 (And.intro hFm hx))))))
            obtain ⟨wm1, wm2⟩ := HWM.out
            clear ho4 hs4 l3 c3 t3 m3 ho3 s3 hFm hap hlt hkl hml hlo4 b4 hoth5 l5 c5 t5 m5 ho5 hz5 s5 hmp hlen5 hx hM1 hgk
            go_wp2_with (first | rw [hW5] | fail)
            clear hW1 hW3 hW5 z0 g0
            go_region
            go_wp2_with (fail)
            refine bodyPost_end (results_none rfl _ _ _) rfl ?_
            obtain ⟨l5, c5, t5, ho5, s5, hFm, hx⟩ := H5.out
            obtain ⟨hap, hlt, _⟩ := HZ.out
            exact ⟨rfl, FromJ.cutted ⟨hap.2.2.2.2.2.2.1, hap.2.2.2.2.2.2.2.1, hap.2.2.2.2.2.2.2.2⟩ ⟨hlt.1, hlt.2.1⟩ l5 c5 t5 ho5 s5 hFm (by rw [HL.out]; exact HMN.out) hx⟩
          · have hbi : ¬ (m : Int) < (h2 : Int) := by omega
            obtain ⟨wr1, wr2⟩ := HWR.out
            have hgk := HG.out
            go_enter Try.func33, Try.ntmps33
            go_wp2_with (first
              | rw [hW1]
              | (at_builtin; refine list_exec rfl (exec_appK rfl rfl rfl HRUN.out) ?_; simp only [Act.put, List.setIfInBounds_toArray, List.set_cons_zero, List.set_cons_succ])
              | rw [hW3]
              | fail)
            refine bodyPost_end (results_none rfl _ _ _) rfl ?_
            obtain ⟨l3, c3, t3, m3, ho3, s3, hFm⟩ := H3.out
            exact ⟨rfl, _, true, last, A', N, c', ⟨c3, t3, l3⟩, ho3, hFm, s3⟩
      · have hkey : bytesBefore k key = false ∧ bytesBefore last k = false := ⟨HE.out.1.symm, HE.out.2.symm.trans (by simp)⟩
        have HKEY := Lib.hid hkey
        clear hkey
        have hg1 := grows_alloc w (.cells #[.string ⟨k.toArray⟩] 9)
        have hm1 := Whole.made w 9 #[.string ⟨k.toArray⟩]
        obtain ⟨W1, hW1⟩ : ∃ W1, w.alloc (.cells #[.string ⟨k.toArray⟩] 9) = W1 := ⟨_, rfl⟩
        rw [hW1] at hg1 hm1
        obtain ⟨hB, ⟨hb1, hb2, hb3⟩, ho, hF, hs⟩ := HX.out
        have hlen := OwnS.len ho
        have hFl := hF.len
        have hn1 : n < 1000000 := by omega
        have hBs : W0.heap.size ≤ W1.heap.size := Nat.le_trans hs.size hg1.size
        obtain ⟨A', c', W2, hrun, hown2, hgb⟩ := app_key (ty := 38) (owned_grow ho hg1) k hm1 hn1 hBs
        obtain ⟨gk, hgk⟩ : ∃ gk, w.heap.size = gk := ⟨_, rfl⟩
        rw [hgk] at hrun
        have hlo : ∀ q, q < W0.heap.size → W2.heap[q]? = w.heap[q]? := fun q hq => (hgb.block q (by omega) fun e => by have := (owned_lt3 ho e.symm).1; omega).trans (hg1.block q (by have := hs.size; omega))
        obtain ⟨hap, hlt⟩ := And.intro hB.apart hB.lt
        have hkl := hB.key.lt
        have hml := hB.many.lt
        have b2 : Boxed W2 lb 38 (.slice A n c) := (hlo lb hlt.2.2).trans hb3
        have x0 := b2.cell
        have f0 : W2.frozen? ⟨lb, 0, none⟩ = false := Whole.free b2 0
        obtain ⟨W3, hW3⟩ : ∃ W3, W2.setCell ⟨lb, 0, none⟩ (.slice A' (n + 1) c') = W3 := ⟨_, rfl⟩
        have hoth3 : ∀ q, q ≠ lb → W3.heap[q]? = W2.heap[q]? := fun q hq => by rw [← hW3]; exact heap_setCell_other W2 ⟨lb, 0, none⟩ q _ (fun e => hq (by simpa using e))
        have l3 : Boxed W3 lb 38 (.slice A' (n + 1) c') := by rw [← hW3]; exact Whole.put b2 0 _
        have hlo3 : ∀ q, q < W0.heap.size → q ≠ lb → W3.heap[q]? = w.heap[q]? := fun q hq hne => (hoth3 q hne).trans (hlo q hq)
        have c3 : Boxed W3 cb 4 (.bool true) := (hlo3 cb hlt.1 (by omega)).trans hb1
        have t3 : Boxed W3 tb 9 (kS last) := (hlo3 tb hlt.2.1 (by omega)).trans hb2
        have m3 : Boxed W3 mb 3 (.int .i64 (m : Nat)) := (hlo3 mb hml (by omega)).trans ((hs.same mb hml (by omega)).trans hB.many)
        have ho3 : OwnS W3 W0.heap.size A' (n + 1) c' (l ++ [k]) := owned_same3 hown2 fun q hq => hoth3 q fun e => by have := (owned_lt3 hown2 hq).1; omega
        have hz3 : W3.heap.size = W2.heap.size := by rw [← hW3]; simp
        have s3 : Spares (fun q => q = cb ∨ q = tb ∨ q = lb) W0 W3 := by
          refine ⟨?_, ?_, ?_, by have := hgb.size; omega, fun q hq hne => (hlo3 q hq (by omega)).trans (hs.same q hq hne)⟩
          · rw [← hW3]; exact hgb.os.trans (hg1.os.trans hs.os)
          · rw [← hW3]; exact hgb.tape.trans (hg1.tape.trans hs.tape)
          · rw [← hW3]; exact hgb.output.trans (hg1.output.trans hs.output)
        have hFm := hF.more HKEY.out.1 (fun _ => HKEY.out.2)
        have y0 := l3.cell
        have y1 := m3.cell
        have H3 := Lib.hid (And.intro l3 (And.intro c3 (And.intro t3 (And.intro m3 (And.intro ho3 (And.intro s3 hFm))))))
        have HRUN := Lib.hid hrun
        have HZ := Lib.hid (And.intro hap (And.intro hlt (And.intro hkl hml)))
        have HL := Lib.hid (show (l ++ [k]).length = n + 1 from by rw [List.length_append, hlen]; rfl)
        have HG := Lib.hid hgk
        obtain ⟨N, hN⟩ : ∃ N, n + 1 = N := ⟨_, rfl⟩
        have hNi : (n : Int) + 1 = (N : Int) := by omega
        obtain ⟨h2, hh2⟩ : ∃ h2, N / 2 = h2 := ⟨_, rfl⟩
        have hdi : (N : Int).tdiv 2 = (h2 : Int) := by rw [Int.tdiv_eq_ediv_of_nonneg (by omega)]; omega
        have hdi2 : (N : Int) / 2 = (h2 : Int) := by omega
        have hNb : N ≤ 1000000 := by omega
        have HNN := Lib.hid (And.intro hN hh2)
        have HWR := Lib.hid (wrapK (x := (h2 : Int)) (by omega) (by omega))
        rw [hN] at hW3 y0 H3 HRUN HL
        clear hg1 hm1 hB hb1 hb2 hb3 ho hF hs hlen hFl hn1 hBs hrun hown2 hgb hlo hap hlt hkl hml b2 hoth3 l3 hlo3 c3 t3 m3 ho3 hz3 s3 hFm hgk hN hh2
        by_cases hbig : m < h2
        · have hbi : (m : Int) < (h2 : Int) := by omega
          have HFI := Lib.hid (kfirst_any m W3 H3.out.2.2.2.2.1 (by omega) hm)
          have hmn : min m N = m := by have := HNN.out; omega
          have HMN := Lib.hid (show m ≤ N from by have := HNN.out; omega)
          rw [hmn] at HFI
          obtain ⟨wr1, wr2⟩ := HWR.out
          have hgk := HG.out
          go_enter Try.func33, Try.ntmps33
          go_wp2_with (first
            | rw [hW1]
            | (at_builtin; refine list_exec rfl (exec_appK rfl rfl rfl HRUN.out) ?_; simp only [Act.put, List.setIfInBounds_toArray, List.set_cons_zero, List.set_cons_succ])
            | rw [hW3]
            | fail)
          refine HFI.out.mono ?_
          rintro e w4 ⟨rfl, ho4, hs4⟩
          obtain ⟨l3, c3, t3, m3, ho3, s3, hFm⟩ := H3.out
          obtain ⟨hap, hlt, hkl, hml⟩ := HZ.out
          have hlo4 : ∀ q, q < W0.heap.size → w4.heap[q]? = W3.heap[q]? := fun q hq => hs4.same q (by have := s3.size; omega) fun e => by have := (owned_lt3 ho3 e).1; omega
          have b4 : Boxed w4 lb 38 (.slice A' N c') := (hlo4 lb hlt.2.2).trans l3
          have z0 := b4.cell
          have g0 : w4.frozen? ⟨lb, 0, none⟩ = false := Whole.free b4 0
          obtain ⟨W5, hW5⟩ : ∃ W5, w4.setCell ⟨lb, 0, none⟩ (.slice A' m c') = W5 := ⟨_, rfl⟩
          have hoth5 : ∀ q, q ≠ lb → W5.heap[q]? = w4.heap[q]? := fun q hq => by rw [← hW5]; exact heap_setCell_other w4 ⟨lb, 0, none⟩ q _ (fun e => hq (by simpa using e))
          have l5 : Boxed W5 lb 38 (.slice A' m c') := by rw [← hW5]; exact Whole.put b4 0 _
          have c5 : Boxed W5 cb 4 (.bool true) := (hoth5 cb (by omega)).trans ((hlo4 cb hlt.1).trans c3)
          have t5 : Boxed W5 tb 9 (kS last) := (hoth5 tb (by omega)).trans ((hlo4 tb hlt.2.1).trans t3)
          have m5 : Boxed W5 mb 3 (.int .i64 (m : Nat)) := (hoth5 mb (by omega)).trans ((hlo4 mb hml).trans m3)
          have ho5 : OwnS W5 W0.heap.size A' m c' (fm m (l ++ [k])) := owned_same3 ho4 fun q hq => hoth5 q fun e => by have := (owned_lt3 ho4 hq).1; omega
          have hz5 : W5.heap.size = w4.heap.size := by rw [← hW5]; simp
          have s5 : Spares (fun q => q = cb ∨ q = tb ∨ q = lb) W0 W5 := by
            refine ⟨?_, ?_, ?_, by have := hs4.size; have := s3.size; omega, fun q hq hne => (hoth5 q (by omega)).trans ((hlo4 q hq).trans (s3.same q hq hne))⟩
            · rw [← hW5]; exact hs4.os.trans s3.os
            · rw [← hW5]; exact hs4.tape.trans s3.tape
            · rw [← hW5]; exact hs4.output.trans s3.output
          have hmp := hFm.pos
          have hlen5 := OwnS.len ho5
          obtain ⟨ga, rfl⟩ : ∃ ga, A' = some ⟨ga, 0, none⟩ := by
            rcases ho5.2 with ⟨e, e2⟩ | ⟨g, cap, cur, e, _⟩
            · omega
            · injection e with e1 e2 e3; exact ⟨g, e1⟩
          obtain ⟨x, hx⟩ : ∃ x, (fm m (l ++ [k]))[m - 1]? = some x := ⟨_, List.getElem?_eq_getElem (by omega)⟩
          have hcell : W5.cell? ⟨ga, m - 1, none⟩ = some (.string ⟨x.toArray⟩) := by
            have h1 := ho5.cells (g := ga) rfl (m - 1) (kS x) (by rw [List.getElem?_map, hx]; rfl)
            rw [show (⟨ga, 0, none⟩ : Addr).add (m - 1) = ⟨ga, m - 1, none⟩ by unfold Addr.add; split <;> simp_all] at h1
            exact h1
          have q0 := l5.cell
          have q1 := m5.cell
          have q2 := c5.cell
          have q3 : W5.cell? ⟨tb, 0, none⟩ = some (.string ⟨last.toArray⟩) := t5.cell
          have u2 : W5.frozen? ⟨cb, 0, none⟩ = false := Whole.free c5 0
          have u3 : W5.frozen? ⟨tb, 0, none⟩ = false := Whole.free t5 0
          obtain ⟨M1, hM1⟩ : ∃ M1, m - 1 = M1 := ⟨_, rfl⟩
          rw [hM1] at hcell
          have hMi : (m : Int) - 1 = (M1 : Int) := by omega
          have hMa : (0 : Int) ≤ (M1 : Int) := by omega
          have hMb : (M1 : Int) < (m : Int) := by omega
          have HWM := Lib.hid (wrapK (x := (M1 : Int)) (by omega) (by omega))
          have hne1 := hap.2.2.2.2.2.2.1
          have hne2 : ga ≠ cb := fun e => by have := (owned_lt3 ho5 (k := ga) rfl).1; omega
          have hne3 : ga ≠ tb := fun e => by have := (owned_lt3 ho5 (k := ga) rfl).1; omega
          have hne4 := hap.2.2.2.2.2.2.2.1
          have hne5 := hap.2.2.2.2.2.2.2.2
          have hne6 := hap.2.2.2.1
          have hne7 := hap.2.2.2.2.1
          have H5 := Lib.hid (And.intro l5 (And.intro c5 (And.intro t5 (And.intro ho5 (And.intro s5 (And.intro hFm hx))))))
          obtain ⟨wm1, wm2⟩ := HWM.out
          clear ho4 hs4 l3 c3 t3 m3 ho3 s3 hFm hap hlt hkl hml hlo4 b4 hoth5 l5 c5 t5 m5 ho5 hz5 s5 hmp hlen5 hx hM1 hgk
          go_wp2_with (first | rw [hW5] | fail)
          clear hW1 hW3 hW5 z0 g0
          go_region
          go_wp2_with (fail)
          refine bodyPost_end (results_none rfl _ _ _) rfl ?_
          obtain ⟨l5, c5, t5, ho5, s5, hFm, hx⟩ := H5.out
          obtain ⟨hap, hlt, _⟩ := HZ.out
          exact ⟨rfl, FromJ.cutted ⟨hap.2.2.2.2.2.2.1, hap.2.2.2.2.2.2.2.1, hap.2.2.2.2.2.2.2.2⟩ ⟨hlt.1, hlt.2.1⟩ l5 c5 t5 ho5 s5 hFm (by rw [HL.out]; exact HMN.out) hx⟩
        · have hbi : ¬ (m : Int) < (h2 : Int) := by omega
          obtain ⟨wr1, wr2⟩ := HWR.out
          have hgk := HG.out
          go_enter Try.func33, Try.ntmps33
          go_wp2_with (first
            | rw [hW1]
            | (at_builtin; refine list_exec rfl (exec_appK rfl rfl rfl HRUN.out) ?_; simp only [Act.put, List.setIfInBounds_toArray, List.set_cons_zero, List.set_cons_succ])
            | rw [hW3]
            | fail)
          refine bodyPost_end (results_none rfl _ _ _) rfl ?_
          obtain ⟨l3, c3, t3, m3, ho3, s3, hFm⟩ := H3.out
          exact ⟨rfl, _, true, last, A', N, c', ⟨c3, t3, l3⟩, ho3, hFm, s3⟩
  · have hkey : bytesBefore k key = true := HE.out.1.symm
    have HKEY := Lib.hid hkey
    clear hkey
    go_enter Try.func33, Try.ntmps33
    go_wp2_with (fail)
    refine bodyPost_ret (results_none rfl _ _ _) rfl ?_
    obtain ⟨hB, ⟨hb1, hb2, hb3⟩, ho, hF, hs⟩ := HX.out
    exact ⟨rfl, l, cut, last, A, n, c, ⟨hb1, hb2, hb3⟩, ho, hF.low HKEY.out, hs⟩
end Go.Proofs.Ytadgbobemmfjoaa
