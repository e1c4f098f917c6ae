import Derived.Test.YtlldcogkcjnejaaGreatMG13
import Derived.Test.YtlldcogkcjnejaaGreatMG06
namespace Go.Proofs.YtlldcogkcjnejaaGreat
open Go.Lib (hid)
open Go.RowKit
theorem Zj7 {cs : List Ch} {l : Dir} {j : Nat} {p : Ch} (h : cs[j]? = some p) : rredo (cs.take (j + 1)) l = rdoes p (rredo (cs.take j) l) := by
 unfold rredo
 rw [List.take_add_one, h, List.foldl_append]
 rfl
theorem Zgv {cs : List Ch} {j pl : Nat} {x : Int} (hl : cs.length = pl) (hj : j ≤ pl) (h0 : j = 0 ∨ (j : Int) ≤ x) (h : j = pl ∨ x ≤ (j : Int)) : cs.take x.toNat = cs.take j := by
 by_cases hx : x.toNat = j
 ·rw [hx]
 ·have hjp : j = pl := by omega
  rw [List.take_of_length_le (by omega), List.take_of_length_le (by omega)]
def BootN (w0 : World) (kv : Value) (l : Dir) (w : World) (L : Option Addr) (q c : Nat) : Prop :=
 l.length = q ∧ w.ownsRow 0 84 2 (.slice L q c) q (l.flatMap enC) ∧ (∀ k, (Value.slice L q c).ownBlock = some k → kv.ownBlock = some k ∨ w0.heap.size ≤ k) ∧ Grows w0 w
section
variable {w w' : World} {r : Nat} {own : Nat → Prop} {m m' : Rf} {fv nv kv pv fv' nv' kv' pv' : Value}
theorem BootN.next {w0 wr w2 : World} {kv : Value} {l : Dir} {L : Option Addr} {q c : Nat} {p : Ch} {e : Ending} (h : BootN w0 kv l wr L q c) (hd : RDoTo wr (.slice L q c) (rdoes p l) e w2) :
 ∃ L2 q2 c2, e = .returned (.slice L2 q2 c2) ∧ BootN w0 kv (rdoes p l) w2 L2 q2 c2 := by
 obtain ⟨v, rfl, hr, hk, hg⟩ := hd
 obtain ⟨A, c2, rfl⟩ := Z8 hr
 exact ⟨A, _, c2, rfl, rfl, hr, fun k hk' => (hk k hk').elim (h.2.2.1 k) fun e => .inr (Nat.le_trans h.2.2.2.size e), h.2.2.2.trans hg⟩
def J3 (l : List Int) (fs : List Fl) (j : Nat) : List Fl := fs.mapIdx fun i f => if i < j then f.lose (more l i) else f
theorem Zcp (l : List Int) (fs : List Fl) (j : Nat) : (J3 l fs j).length = fs.length := by unfold J3; rw [List.length_mapIdx]
theorem Zdk (l : List Int) (fs : List Fl) : J3 l fs 0 = fs := by
 unfold J3
 apply List.ext_getElem?
 intro i
 rw [List.getElem?_mapIdx]
 cases fs[i]? <;> simp
theorem Zev (l : List Int) (fs : List Fl) : J3 l fs fs.length = fs.mapIdx fun i f => f.lose (more l i) := by
 unfold J3
 apply List.ext_getElem?
 intro i
 rw [List.getElem?_mapIdx, List.getElem?_mapIdx]
 by_cases h : i < fs.length
 ·rw [List.getElem?_eq_getElem h]; simp [h]
 ·rw [List.getElem?_eq_none (by omega)]; rfl
theorem Zew {l : List Int} {fs : List Fl} {j : Nat} {v : Fl} (h : fs[j]? = some v) : (J3 l fs j)[j]? = some v := by
 unfold J3
 rw [List.getElem?_mapIdx, h]
 simp
theorem Zdl {l : List Int} {fs : List Fl} {j : Nat} {v : Fl} (h : fs[j]? = some v) : (J3 l fs j).set j (v.lose (more l j)) = J3 l fs (j + 1) := by
 have hj : j < fs.length := (List.getElem?_eq_some_iff.1 h).1
 apply List.ext_getElem?
 intro i
 rw [List.getElem?_set, Zcp]
 unfold J3
 rw [List.getElem?_mapIdx, List.getElem?_mapIdx]
 by_cases hij : j = i
 ·subst hij
  rw [if_pos rfl, if_pos hj, h]
  simp
 ·rw [if_neg hij]
  cases fs[i]? with
  | none => rfl
  | some u =>
    simp only [Option.map_some]
    by_cases h1 : i < j
    ·rw [if_pos h1, if_pos (by omega)]
    ·rw [if_neg h1, if_neg (by omega)]
theorem RfAt.booted {wl : World} {N : Dir} {fs : List Fl} (h : RfAt w r own m fv nv kv pv) (hg : Grows w wl) (h1 : wl.ownsRow 0 82 2 fv' fs.length (fs.flatMap flC)) (o1 : ∀ k, fv'.ownBlock = some k → w.heap.size ≤ k)
 (h2 : wl.ownsRow 0 84 2 nv' N.length (N.flatMap enC)) (o2 : ∀ k, nv'.ownBlock = some k → kv.ownBlock = some k ∨ w.heap.size ≤ k) :
 RfTo w r own (((((((wl.setCell ⟨r, 1, none⟩ fv').setCell ⟨r, 2, none⟩ nv').setCell ⟨r, 3, none⟩ nv').setCell ⟨r, 4, none⟩ (.slice none 0 0)).setCell ⟨r, 6, none⟩ (.int .i64 (-1))).setCell ⟨r, 7, none⟩ (.int .i64 (-1))).setCell ⟨r, 8, none⟩ (.bool false))
  { m with files := fs, names := N, kept := N, pend := [], fail := -1, cut := -1, down := false } := by
 have h' := h.grow hg
 have ha : RfAt wl r (fun k => own k ∨ (w.heap.size ≤ k ∧ k < wl.heap.size)) m fv nv kv pv := ⟨h'.top, .inl h'.ro, fun k hk => hk.elim (h'.lt k) fun e => e.2, h'.files, fun k e => .inl (h'.fo k e), h'.names, fun k e => .inl (h'.no k e), h'.kept, fun k e => .inl (h'.ko k e), h'.pend, fun k e => .inl (h'.po k e)⟩
 have hs : Zc (fun k => k = r) wl (((((((wl.setCell ⟨r, 1, none⟩ fv').setCell ⟨r, 2, none⟩ nv').setCell ⟨r, 3, none⟩ nv').setCell ⟨r, 4, none⟩ (.slice none 0 0)).setCell ⟨r, 6, none⟩ (.int .i64 (-1))).setCell ⟨r, 7, none⟩ (.int .i64 (-1))).setCell ⟨r, 8, none⟩ (.bool false)) :=
  (((((((Zc.refl (fun k => k = r) wl).setCell (p := ⟨r, 1, none⟩) rfl _).setCell (p := ⟨r, 2, none⟩) rfl _).setCell (p := ⟨r, 3, none⟩) rfl _).setCell (p := ⟨r, 4, none⟩) rfl _).setCell (p := ⟨r, 6, none⟩) rfl _).setCell (p := ⟨r, 7, none⟩) rfl _).setCell (p := ⟨r, 8, none⟩) rfl _
 have t1 : Whole _ r 64 (Y3 m fv' nv kv pv) := ha.top.put 1 fv'
 have t2 : Whole _ r 64 (Y3 m fv' nv' kv pv) := t1.put 2 nv'
 have t3 : Whole _ r 64 (Y3 m fv' nv' nv' pv) := t2.put 3 nv'
 have t4 : Whole _ r 64 (Y3 m fv' nv' nv' (.slice none 0 0)) := t3.put 4 (.slice none 0 0)
 have t6 : Whole _ r 64 (Y3 { m with fail := -1 } fv' nv' nv' (.slice none 0 0)) := t4.put 6 (.int .i64 (-1))
 have t7 : Whole _ r 64 (Y3 { m with fail := -1, cut := -1 } fv' nv' nv' (.slice none 0 0)) := t6.put 7 (.int .i64 (-1))
 have ht : Whole _ r 64 (Y3 { m with files := fs, names := N, kept := N, pend := [], fail := -1, cut := -1, down := false } fv' nv' nv' (.slice none 0 0)) := t7.put 8 (.bool false)
 have ob2 : ∀ k, nv'.ownBlock = some k → own k ∨ (w.heap.size ≤ k ∧ k < wl.heap.size) := fun k hk => (o2 k hk).elim (fun e => .inl (h.ko k e)) fun e => .inr ⟨e, (h2.lt k hk).2⟩
 refine ⟨_, fv', nv', nv', .slice none 0 0, ha.retop (m' := { m with files := fs, names := N, kept := N, pend := [], fail := -1, cut := -1, down := false }) hs ht h1 (fun k hk => .inr ⟨o1 k hk, (h1.lt k hk).2⟩) h2 ob2 h2 ob2 ⟨rfl, .inl ⟨rfl, rfl⟩⟩ (fun k hk => (by cases hk)), (Zc.grows hg).trans (hs.wider fun k _ e => e ▸ h.ro), fun k hk => hk.imp id fun e => e.1⟩
set_option maxHeartbeats 4000000 in
set_option maxRecDepth 100000 in
theorem Zlp (w : World) (x : Int) (l : List Int) {A3 : Option Addr} {ln c3 : Nat} (h : RfAt w r own m fv nv kv pv) (hF : RfFit m) (hsum : m.kept.length + m.pend.length ≤ 100000) (hI : Ints w A3 ln c3 l) (hlb : ∀ x ∈ l, -9223372036854775808 ≤ x ∧ x ≤ 9223372036854775807) :
 Calls Tryz.prog 30 #[.pointer (some ⟨r, 0, none⟩), .int .i64 x, .slice A3 ln c3] w fun e w' => e = .returned (.tuple #[]) ∧ RfTo w r own w' (m.boot x l) := by
 obtain ⟨KA, kc, hKA⟩ := Z8 h.kept
 obtain ⟨PA, pc, hPA⟩ := Z8 h.pend
 have HPW := hid (Rw.owned chL rfl (hPA ▸ h.pend))
 have HC := hid (show ∀ w', Grows w w' → w'.cell? ⟨r, 3, none⟩ = some (.slice KA m.kept.length kc) ∧ w'.cell? ⟨r, 4, none⟩ = some (.slice PA m.pend.length pc) from fun w' hg => ⟨hKA ▸ (h.grow hg).cell 3, hPA ▸ (h.grow hg).cell 4⟩)
 have HK := hid (show BootN w kv (rredo (m.pend.take 0) m.kept) w KA m.kept.length kc from ⟨rfl, hKA ▸ h.kept, fun k hk => .inl (hKA ▸ hk), Grows.refl _⟩)
 have H := hid h
 have HF := hid (And.intro hF hsum)
 have HI := hid (And.intro hI hlb)
 obtain ⟨i1, hi1, hz1, hy1, hb1⟩ := info_parts infoFl
 have HI1 := hid (And.intro hi1 (And.intro hz1 (And.intro hy1 hb1)))
 obtain ⟨FA, fc, hFA⟩ := Z8 h.files
 have HRW0 := hid (show ∀ w', Grows w w' → (Row w' w'.heap.size FA (2 * m.files.length) (m.files.flatMap flC) ∧ (FA = none → fc = 0)) ∧ w'.cell? ⟨r, 1, none⟩ = some (.slice FA m.files.length fc) from fun w' hg => ⟨Row.ownedK (hFA ▸ (h.grow hg).files), hFA ▸ (h.grow hg).cell 1⟩)
 obtain ⟨fl, hfl⟩ : ∃ fl, m.files.length = fl := ⟨_, rfl⟩
 have HFL := hid hfl
 rw [hfl] at HRW0
 have hfl1 : fl ≤ 100000 := hfl ▸ hF.files
 clear hi1 hz1 hy1 hb1 hFA hfl hI hlb
 obtain ⟨pl, hpl⟩ : ∃ pl, m.pend.length = pl := ⟨_, rfl⟩
 obtain ⟨kl, hkl⟩ : ∃ kl, m.kept.length = kl := ⟨_, rfl⟩
 have HPL := hid (And.intro hpl hkl)
 rw [hpl, hkl] at HC
 rw [hpl] at HPW
 rw [hkl] at HK
 rw [hpl, hkl] at hsum
 obtain ⟨c3w, c4w⟩ := HC.out w (Grows.refl _)
 clear h hF hKA hPA hpl hkl c4w
 go_enter Tryz.func30, Tryz.ntmps30
 go_wp2_with (fail)
 go_loopw [6, 7] (fun vs vi wr => ∃ (j q : Nat) (L : Option Addr) (lc : Nat), j ≤ pl ∧ vs = .slice L q lc ∧ vi = .int .i64 (j : Nat) ∧ Hid (j = 0 ∨ (j : Int) ≤ x) ∧ Hid (BootN w kv (rredo (m.pend.take j) m.kept) wr L q lc)) (fun _ i _ => pl - (intOf i).toNat)
 case atStart => exact ⟨0, _, _, _, Nat.zero_le _, rfl, rfl, hid (.inl rfl), HK⟩
 case round =>
  obtain ⟨j, q, L, lc, hj, rfl, rfl, HJ, HB⟩ := hrel
  have hg := HB.out.2.2.2
  obtain ⟨c3r, c4r⟩ := HC.out wr hg
  have hwj : IntKind.i64.wrap ((j : Int) + 1) = (j : Int) + 1 := IntWalk.i64_in _ (by omega)
  by_cases hlt : j < pl
  ·have hjI : (j : Int) < (pl : Int) := by omega
   have hj0 : (0 : Int) ≤ (j : Int) := by omega
   by_cases hx : (j : Int) < x
   ·obtain ⟨p, hp⟩ : ∃ p, m.pend[j]? = some p := ⟨_, List.getElem?_eq_getElem (by rw [HPL.out.1]; exact hlt)⟩
    obtain ⟨g, hA2, hgl, hc⟩ := HPW.out.spot j p hp
    subst hA2
    have hrr := Zj7 (l := m.kept) hp
    have hq : q ≤ 100000 := by
     have h1 := rredo_len (m.pend.take j) m.kept
     have h2 : (m.pend.take j).length ≤ m.pend.length := by rw [List.length_take]; exact Nat.min_le_right _ _
     have h3 := HB.out.1
     have h4 := HF.out.2
     omega
    have hcell : ∀ i u, i < 4 → (chC p)[i]? = some u → wr.cell? ⟨g, j * 4 + i, none⟩ = some u := fun i u hi hu => (hg.cell (show (⟨g, j * 4 + i, none⟩ : Addr).block < w.heap.size from hgl)).trans ((hc i hi).trans hu)
    have HDO := hid (Zgy wr (A := L) (c := lc) p HB.out.2.1 HB.out.1 hq)
    have HLT := hid (And.intro hlt hx)
    have HRR := hid hrr
    clear hp hc hq hg c3r hrr
    cases p with
    | made y f =>
      have d0 : wr.cell? { block := g, off := j * 4 } = some (.int .i64 1) := hcell 0 (.int .i64 1) (by omega) rfl
      have d1 : wr.cell? { block := g, off := j * 4 + 1 } = some (.string ⟨y.toArray⟩) := hcell 1 (.string ⟨y.toArray⟩) (by omega) rfl
      have d2 : wr.cell? { block := g, off := j * 4 + 2 } = some (.string ⟨#[]⟩) := hcell 2 (.string ⟨#[]⟩) (by omega) rfl
      have d3 : wr.cell? { block := g, off := j * 4 + 3 } = some (.int .i64 (f : Int)) := hcell 3 (.int .i64 (f : Int)) (by omega) rfl
      have HD2 := hid (show Calls Tryz.prog 72 #[.slice L q lc, .agg #[.int .i64 1, .string ⟨y.toArray⟩, .string ⟨#[]⟩, .int .i64 (f : Int)]] wr fun e w' => RDoTo wr (.slice L q lc) (rdoes (.made y f) (rredo (m.pend.take j) m.kept)) e w' from HDO.out)
      clear hcell HDO
      go_wp2_with (fail)
      refine HD2.out.mono ?_
      intro e w2 hdo
      obtain ⟨L2, q2, c2, rfl, hb2⟩ := HB.out.next hdo
      have HB2 := hid (HRR.out.symm ▸ hb2)
      clear hdo hb2
      go_wp2_with (fail)
      exact ⟨⟨j + 1, q2, L2, c2, HLT.out.1, rfl, rfl, hid (.inr (by have := HLT.out.2; omega)), HB2⟩, Yb HLT.out.1⟩
    | moved y z =>
      have d0 : wr.cell? { block := g, off := j * 4 } = some (.int .i64 2) := hcell 0 (.int .i64 2) (by omega) rfl
      have d1 : wr.cell? { block := g, off := j * 4 + 1 } = some (.string ⟨y.toArray⟩) := hcell 1 (.string ⟨y.toArray⟩) (by omega) rfl
      have d2 : wr.cell? { block := g, off := j * 4 + 2 } = some (.string ⟨z.toArray⟩) := hcell 2 (.string ⟨z.toArray⟩) (by omega) rfl
      have d3 : wr.cell? { block := g, off := j * 4 + 3 } = some (.int .i64 0) := hcell 3 (.int .i64 0) (by omega) rfl
      have HD2 := hid (show Calls Tryz.prog 72 #[.slice L q lc, .agg #[.int .i64 2, .string ⟨y.toArray⟩, .string ⟨z.toArray⟩, .int .i64 0]] wr fun e w' => RDoTo wr (.slice L q lc) (rdoes (.moved y z) (rredo (m.pend.take j) m.kept)) e w' from HDO.out)
      clear hcell HDO
      go_wp2_with (fail)
      refine HD2.out.mono ?_
      intro e w2 hdo
      obtain ⟨L2, q2, c2, rfl, hb2⟩ := HB.out.next hdo
      have HB2 := hid (HRR.out.symm ▸ hb2)
      clear hdo hb2
      go_wp2_with (fail)
      exact ⟨⟨j + 1, q2, L2, c2, HLT.out.1, rfl, rfl, hid (.inr (by have := HLT.out.2; omega)), HB2⟩, Yb HLT.out.1⟩
    | taken y =>
      have d0 : wr.cell? { block := g, off := j * 4 } = some (.int .i64 3) := hcell 0 (.int .i64 3) (by omega) rfl
      have d1 : wr.cell? { block := g, off := j * 4 + 1 } = some (.string ⟨y.toArray⟩) := hcell 1 (.string ⟨y.toArray⟩) (by omega) rfl
      have d2 : wr.cell? { block := g, off := j * 4 + 2 } = some (.string ⟨#[]⟩) := hcell 2 (.string ⟨#[]⟩) (by omega) rfl
      have d3 : wr.cell? { block := g, off := j * 4 + 3 } = some (.int .i64 0) := hcell 3 (.int .i64 0) (by omega) rfl
      have HD2 := hid (show Calls Tryz.prog 72 #[.slice L q lc, .agg #[.int .i64 3, .string ⟨y.toArray⟩, .string ⟨#[]⟩, .int .i64 0]] wr fun e w' => RDoTo wr (.slice L q lc) (rdoes (.taken y) (rredo (m.pend.take j) m.kept)) e w' from HDO.out)
      clear hcell HDO
      go_wp2_with (fail)
      refine HD2.out.mono ?_
      intro e w2 hdo
      obtain ⟨L2, q2, c2, rfl, hb2⟩ := HB.out.next hdo
      have HB2 := hid (HRR.out.symm ▸ hb2)
      clear hdo hb2
      go_wp2_with (fail)
      exact ⟨⟨j + 1, q2, L2, c2, HLT.out.1, rfl, rfl, hid (.inr (by have := HLT.out.2; omega)), HB2⟩, Yb HLT.out.1⟩
   ·have HBN := hid (show BootN w kv (rredo (m.pend.take x.toNat) m.kept) wr L q lc from (Zgv HPL.out.1 hj HJ.out (.inr (by omega))).symm ▸ HB.out)
    obtain ⟨W1, hW1⟩ : ∃ W1, wr.alloc (.cells #[] 82) = W1 := ⟨_, rfl⟩
    have HG1 := hid (show Grows wr W1 from hW1 ▸ Zb _ _)
    have HO1 := hid (show W1.ownsRow wr.heap.size 82 2 (.slice (some ⟨wr.heap.size, 0, none⟩) 0 0) 0 [] from hW1 ▸ World.ownsRow_lit (size := 2) (e := 82) (base := wr.heap.size) wr #[] 0 (Nat.le_refl _) (Nat.zero_le _) rfl)
    have hrw := HRW0.out W1 (hg.trans HG1.out)
    have c1r := hrw.2
    have HRW := hid hrw.1
    clear hrw HB HJ hg c3r
    go_wp2_with (first
     | (at_builtin
        refine Z0 rfl (.tmp 40) (.tmp 44) 60 rfl wr.heap.size 82 i1 (.agg #[.string ⟨#[]⟩, .int .i64 0]) 2 24 Tryz.underlying60 HI1.out.1 HI1.out.2.1 HI1.out.2.2.1 HI1.out.2.2.2 rfl (by decide) rfl
         HO1.out rfl HRW.out.1 HRW.out.2 (fun u hu => by obtain ⟨q, _, hq⟩ := List.mem_flatMap.1 hu; exact Zfr q u hq) fl (Nat.zero_add _) (by unfold maxLen; omega) (by omega) HG1.out.size ?_
        intro LB ld w5 hr5 hg5 hat5
        have HR5 := hid (show w5.ownsRow wr.heap.size 82 2 (.slice LB fl ld) fl ((J3 l m.files 0).flatMap flC) from by rw [Zdk]; exact hr5)
        have HG5 := hid (show Grows wr w5 from Below.grown HG1.out hg5 HG1.out.size fun q hq => (HO1.out.lt q hq).1)
        clear hr5 hg5 hat5))
    go_loopw [9] (fun vi wl => ∃ (j : Nat), j ≤ fl ∧ vi = .int .i64 (j : Nat) ∧ Hid (wl.ownsRow wr.heap.size 82 2 (.slice LB fl ld) fl ((J3 l m.files j).flatMap flC)) ∧ Hid (Grows wr wl)) (fun i _ => fl - (intOf i).toNat)
    case atStart => exact ⟨0, Nat.zero_le _, rfl, HR5, HG5⟩
    case round =>
     obtain ⟨y, hy, rfl, HRy, HGy⟩ := hrel
     have hwy : IntKind.i64.wrap ((y : Int) + 1) = (y : Int) + 1 := IntWalk.i64_in _ (by omega)
     by_cases hyl : y < fl
     ·obtain ⟨v, hv⟩ : ∃ v, m.files[y]? = some v := ⟨_, List.getElem?_eq_getElem (by rw [HFL.out]; exact hyl)⟩
      obtain ⟨g, cap, hvv, hgb, hglt⟩ := HRy.out.form (by omega)
      injection hvv with hv1 _ hv2
      subst hv1 hv2
      have hv' := Zew (l := l) hv
      have y0 : wr.cell? { block := g, off := y * 2 } = some (.string ⟨v.bytes.toArray⟩) := (HRy.out.cellAt (y * 2) (by omega)).trans (Zak flL _ y 0 _ hv' (by omega))
      have y1 : wr.cell? { block := g, off := y * 2 + 1 } = some (.int .i64 (v.kept : Int)) := (HRy.out.cellAt (y * 2 + 1) (by omega)).trans (Zak flL _ y 1 _ hv' (by omega))
      have p0 : wr.frozen? { block := g, off := y * 2 } = false := HRy.out.frozenAt _
      have p1 : wr.frozen? { block := g, off := y * 2 + 1 } = false := HRy.out.frozenAt _
      have hbb := HF.out.1.bytes v (List.mem_of_getElem? hv)
      obtain ⟨kp, hkp⟩ : ∃ kp, v.kept = kp := ⟨_, rfl⟩
      obtain ⟨vl, hvl⟩ : ∃ vl, v.bytes.length = vl := ⟨_, rfl⟩
      obtain ⟨sb, hsb⟩ : ∃ s : ByteArray, (⟨v.bytes.toArray⟩ : ByteArray) = s := ⟨_, rfl⟩
      have hss : sb.size = vl := by rw [← hsb, ← hvl]; simp [ByteArray.size]
      obtain ⟨n1, hn1⟩ : ∃ n1, (v.lose (more l y)).kept = n1 := ⟨_, rfl⟩
      obtain ⟨M, hM⟩ : ∃ M, max (more l y) 0 = M := ⟨_, rfl⟩
      have hn1' : kp + (min M ((vl : Int) - kp)).toNat = n1 := by rw [← hn1, ← hkp, ← hvl, ← hM]; rfl
      rw [hkp] at y1
      rw [hsb] at y0
      rw [hkp, hvl] at hbb
      have hw1 : IntKind.i64.wrap ((vl : Int) - (kp : Int)) = (vl : Int) - kp := IntWalk.i64_in _ (by omega)
      have hyI : (y : Int) < (fl : Int) := by omega
      have hy0 : (0 : Int) ≤ (y : Int) := by omega
      have HV := hid (And.intro hv (And.intro hkp (And.intro hvl (And.intro hsb hn1))))
      have HYL := hid hyl
      have hgs : g < wr.heap.size := hglt
      have hne : ¬ g = wr.heap.size := by omega
      have hlw := Zdl (l := l) hv
      have hex : (⟨(v.lose (more l y)).bytes.toArray⟩ : ByteArray) = sb.extract 0 n1 := by
       rw [← hsb, ← hn1]
       show (⟨(v.bytes.take (v.lose (more l y)).kept).toArray⟩ : ByteArray) = _
       apply ByteArray.ext
       simp [ByteArray.data_extract]
      have q2 := (HRy.out.stored (y * 2) (.string ⟨(v.lose (more l y)).bytes.toArray⟩)).1
      have q3 := (q2.stored (y * 2 + 1) (.int .i64 ((v.lose (more l y)).kept : Int))).1
      rw [Zca _ _ y (by rw [Zcp, HFL.out]; exact hyl), hlw, hex, hn1] at q3
      have HRN := hid (Zd q3 (Zb _ (.cells #[.string sb, .int .i64 (kp : Int)] 82)))
      have hgn := (HGy.out.setCell (p := { block := g, off := y * 2 }) hgb (.string (sb.extract 0 n1))).setCell (p := { block := g, off := y * 2 + 1 }) hgb (.int .i64 (n1 : Int))
      have HGN := hid (Grows.trans hgn (Zb _ (.cells #[.string sb, .int .i64 (kp : Int)] 82)))
      clear hgn
      have hb1 : n1 ≤ vl := by omega
      have hb2 : (n1 : Int) ≤ (vl : Int) := by omega
      have hb3 : (0 : Int) ≤ (n1 : Int) := by omega
      have hms : IntKind.i64.wrap ((kp : Int) + min M ((vl : Int) - kp)) = (n1 : Int) := by rw [IntWalk.i64_in _ (by omega)]; omega
      clear hlw hex q2 q3 hv' hvl hkp hsb hn1 hn1'
      rcases Nat.eq_zero_or_pos ln with hz | hz
      ·subst hz
       have hl0 : l = [] := List.eq_nil_of_length_eq_zero HI.out.1.len
       have hM0 : M = 0 := by rw [← hM, hl0]; rfl
       rw [hM0] at hms
       clear hv hM hbb hl0 hM0 c1r hW1 hglt hgb
       go_wp2_with (fail)
       exact ⟨⟨y + 1, HYL.out, rfl, HRN, HGN⟩, Yb HYL.out⟩
      ·obtain ⟨ad, xx, rfl, hx1, hx2, hx3⟩ := (HI.out.1.grow (HBN.out.2.2.2.trans HGy.out)).get (j := y % ln) (Nat.mod_lt _ hz)
       have em : more l y = xx := by
        unfold more
        rw [if_neg (by rw [HI.out.1.len]; omega), HI.out.1.len, List.getD_eq_getElem?_getD, hx2]
        rfl
       rw [em] at hM
       rw [← hM] at hms
       have r1 : (y : Int).tmod (ln : Int) = ((y % ln : Nat) : Int) := by
        rw [Int.tmod_eq_emod_of_nonneg (by omega)]
        rfl
       have r2 : ((y % ln : Nat) : Int) < (ln : Int) := by have := Nat.mod_lt y hz; omega
       have r3 : (0 : Int) ≤ ((y % ln : Nat) : Int) := by omega
       have z1 : (0 : Int) < (ln : Int) := by omega
       have z2 : ((ln : Int) == 0) = false := by rw [beq_eq_false_iff_ne]; omega
       have z3 : ¬ (ln : Int) = 0 := by omega
       have r4 : IntKind.i64.wrap ((y % ln : Nat) : Int) = ((y % ln : Nat) : Int) := IntWalk.i64_in _ (by have := Nat.mod_le y ln; omega)
       generalize hq : y % ln = qq at *
       have HQ := hid hq
       clear hv hM hbb em c1r hW1 hglt hgb hx2 hx3 hq hz
       go_wp2_with (fail)
       exact ⟨⟨y + 1, HYL.out, rfl, HRN, HGN⟩, Yb HYL.out⟩
     ·obtain rfl : y = fl := by omega
      have HTO := hid (H.out.booted (HBN.out.2.2.2.trans HGy.out) (fs := m.files.mapIdx fun i f => f.lose (more l i)) (N := rredo (m.pend.take x.toNat) m.kept) (fv' := .slice LB y ld) (nv' := .slice L q lc) (by rw [List.length_mapIdx, HFL.out, ← Zev, HFL.out]; exact Zj HRy.out (Nat.zero_le _)) (fun k hk => Nat.le_trans HBN.out.2.2.2.size (HRy.out.lt k hk).1) (by rw [HBN.out.1]; exact Zd HBN.out.2.1 HGy.out) HBN.out.2.2.1)
      have htop := (H.out.grow (HBN.out.2.2.2.trans HGy.out)).top
      have s1 : wr.cell? { block := r, off := 1 } = some fv := htop.cell 1
      have s2 : wr.cell? { block := r, off := 2 } = some nv := htop.cell 2
      have s3 : wr.cell? { block := r, off := 3 } = some kv := htop.cell 3
      have s4 : wr.cell? { block := r, off := 4 } = some pv := htop.cell 4
      have s6 : wr.cell? { block := r, off := 6 } = some (.int .i64 m.fail) := htop.cell 6
      have s7 : wr.cell? { block := r, off := 7 } = some (.int .i64 m.cut) := htop.cell 7
      have s8 : wr.cell? { block := r, off := 8 } = some (.bool m.down) := htop.cell 8
      have g1 : wr.frozen? { block := r, off := 1 } = false := htop.free 1
      have g2 : wr.frozen? { block := r, off := 2 } = false := htop.free 2
      have g3 : wr.frozen? { block := r, off := 3 } = false := htop.free 3
      have g4 : wr.frozen? { block := r, off := 4 } = false := htop.free 4
      have g6 : wr.frozen? { block := r, off := 6 } = false := htop.free 6
      have g7 : wr.frozen? { block := r, off := 7 } = false := htop.free 7
      have g8 : wr.frozen? { block := r, off := 8 } = false := htop.free 8
      clear htop c1r hW1
      go_wp2_with (fail)
      go_end0
      exact ⟨rfl, HTO.out⟩
  ·obtain rfl : j = pl := by omega
   have HBN := hid (show BootN w kv (rredo (m.pend.take x.toNat) m.kept) wr L q lc from (Zgv HPL.out.1 hj HJ.out (.inl rfl)).symm ▸ HB.out)
   obtain ⟨W1, hW1⟩ : ∃ W1, wr.alloc (.cells #[] 82) = W1 := ⟨_, rfl⟩
   have HG1 := hid (show Grows wr W1 from hW1 ▸ Zb _ _)
   have HO1 := hid (show W1.ownsRow wr.heap.size 82 2 (.slice (some ⟨wr.heap.size, 0, none⟩) 0 0) 0 [] from hW1 ▸ World.ownsRow_lit (size := 2) (e := 82) (base := wr.heap.size) wr #[] 0 (Nat.le_refl _) (Nat.zero_le _) rfl)
   have hrw := HRW0.out W1 (hg.trans HG1.out)
   have c1r := hrw.2
   have HRW := hid hrw.1
   clear hrw HB HJ hg c3r
   go_wp2_with (first
    | (at_builtin
       refine Z0 rfl (.tmp 40) (.tmp 44) 60 rfl wr.heap.size 82 i1 (.agg #[.string ⟨#[]⟩, .int .i64 0]) 2 24 Tryz.underlying60 HI1.out.1 HI1.out.2.1 HI1.out.2.2.1 HI1.out.2.2.2 rfl (by decide) rfl
        HO1.out rfl HRW.out.1 HRW.out.2 (fun u hu => by obtain ⟨q, _, hq⟩ := List.mem_flatMap.1 hu; exact Zfr q u hq) fl (Nat.zero_add _) (by unfold maxLen; omega) (by omega) HG1.out.size ?_
       intro LB ld w5 hr5 hg5 hat5
       have HR5 := hid (show w5.ownsRow wr.heap.size 82 2 (.slice LB fl ld) fl ((J3 l m.files 0).flatMap flC) from by rw [Zdk]; exact hr5)
       have HG5 := hid (show Grows wr w5 from Below.grown HG1.out hg5 HG1.out.size fun q hq => (HO1.out.lt q hq).1)
       clear hr5 hg5 hat5))
   go_loopw [9] (fun vi wl => ∃ (j : Nat), j ≤ fl ∧ vi = .int .i64 (j : Nat) ∧ Hid (wl.ownsRow wr.heap.size 82 2 (.slice LB fl ld) fl ((J3 l m.files j).flatMap flC)) ∧ Hid (Grows wr wl)) (fun i _ => fl - (intOf i).toNat)
   case atStart => exact ⟨0, Nat.zero_le _, rfl, HR5, HG5⟩
   case round =>
    obtain ⟨y, hy, rfl, HRy, HGy⟩ := hrel
    have hwy : IntKind.i64.wrap ((y : Int) + 1) = (y : Int) + 1 := IntWalk.i64_in _ (by omega)
    by_cases hyl : y < fl
    ·obtain ⟨v, hv⟩ : ∃ v, m.files[y]? = some v := ⟨_, List.getElem?_eq_getElem (by rw [HFL.out]; exact hyl)⟩
     obtain ⟨g, cap, hvv, hgb, hglt⟩ := HRy.out.form (by omega)
     injection hvv with hv1 _ hv2
     subst hv1 hv2
     have hv' := Zew (l := l) hv
     have y0 : wr.cell? { block := g, off := y * 2 } = some (.string ⟨v.bytes.toArray⟩) := (HRy.out.cellAt (y * 2) (by omega)).trans (Zak flL _ y 0 _ hv' (by omega))
     have y1 : wr.cell? { block := g, off := y * 2 + 1 } = some (.int .i64 (v.kept : Int)) := (HRy.out.cellAt (y * 2 + 1) (by omega)).trans (Zak flL _ y 1 _ hv' (by omega))
     have p0 : wr.frozen? { block := g, off := y * 2 } = false := HRy.out.frozenAt _
     have p1 : wr.frozen? { block := g, off := y * 2 + 1 } = false := HRy.out.frozenAt _
     have hbb := HF.out.1.bytes v (List.mem_of_getElem? hv)
     obtain ⟨kp, hkp⟩ : ∃ kp, v.kept = kp := ⟨_, rfl⟩
     obtain ⟨vl, hvl⟩ : ∃ vl, v.bytes.length = vl := ⟨_, rfl⟩
     obtain ⟨sb, hsb⟩ : ∃ s : ByteArray, (⟨v.bytes.toArray⟩ : ByteArray) = s := ⟨_, rfl⟩
     have hss : sb.size = vl := by rw [← hsb, ← hvl]; simp [ByteArray.size]
     obtain ⟨n1, hn1⟩ : ∃ n1, (v.lose (more l y)).kept = n1 := ⟨_, rfl⟩
     obtain ⟨M, hM⟩ : ∃ M, max (more l y) 0 = M := ⟨_, rfl⟩
     have hn1' : kp + (min M ((vl : Int) - kp)).toNat = n1 := by rw [← hn1, ← hkp, ← hvl, ← hM]; rfl
     rw [hkp] at y1
     rw [hsb] at y0
     rw [hkp, hvl] at hbb
     have hw1 : IntKind.i64.wrap ((vl : Int) - (kp : Int)) = (vl : Int) - kp := IntWalk.i64_in _ (by omega)
     have hyI : (y : Int) < (fl : Int) := by omega
     have hy0 : (0 : Int) ≤ (y : Int) := by omega
     have HV := hid (And.intro hv (And.intro hkp (And.intro hvl (And.intro hsb hn1))))
     have HYL := hid hyl
     have hgs : g < wr.heap.size := hglt
     have hne : ¬ g = wr.heap.size := by omega
     have hlw := Zdl (l := l) hv
     have hex : (⟨(v.lose (more l y)).bytes.toArray⟩ : ByteArray) = sb.extract 0 n1 := by
      rw [← hsb, ← hn1]
      show (⟨(v.bytes.take (v.lose (more l y)).kept).toArray⟩ : ByteArray) = _
      apply ByteArray.ext
      simp [ByteArray.data_extract]
     have q2 := (HRy.out.stored (y * 2) (.string ⟨(v.lose (more l y)).bytes.toArray⟩)).1
     have q3 := (q2.stored (y * 2 + 1) (.int .i64 ((v.lose (more l y)).kept : Int))).1
     rw [Zca _ _ y (by rw [Zcp, HFL.out]; exact hyl), hlw, hex, hn1] at q3
     have HRN := hid (Zd q3 (Zb _ (.cells #[.string sb, .int .i64 (kp : Int)] 82)))
     have hgn := (HGy.out.setCell (p := { block := g, off := y * 2 }) hgb (.string (sb.extract 0 n1))).setCell (p := { block := g, off := y * 2 + 1 }) hgb (.int .i64 (n1 : Int))
     have HGN := hid (Grows.trans hgn (Zb _ (.cells #[.string sb, .int .i64 (kp : Int)] 82)))
     clear hgn
     have hb1 : n1 ≤ vl := by omega
     have hb2 : (n1 : Int) ≤ (vl : Int) := by omega
     have hb3 : (0 : Int) ≤ (n1 : Int) := by omega
     have hms : IntKind.i64.wrap ((kp : Int) + min M ((vl : Int) - kp)) = (n1 : Int) := by rw [IntWalk.i64_in _ (by omega)]; omega
     clear hlw hex q2 q3 hv' hvl hkp hsb hn1 hn1'
     rcases Nat.eq_zero_or_pos ln with hz | hz
     ·subst hz
      have hl0 : l = [] := List.eq_nil_of_length_eq_zero HI.out.1.len
      have hM0 : M = 0 := by rw [← hM, hl0]; rfl
      rw [hM0] at hms
      clear hv hM hbb hl0 hM0 c1r hW1 hglt hgb
      go_wp2_with (fail)
      exact ⟨⟨y + 1, HYL.out, rfl, HRN, HGN⟩, Yb HYL.out⟩
     ·obtain ⟨ad, xx, rfl, hx1, hx2, hx3⟩ := (HI.out.1.grow (HBN.out.2.2.2.trans HGy.out)).get (j := y % ln) (Nat.mod_lt _ hz)
      have em : more l y = xx := by
       unfold more
       rw [if_neg (by rw [HI.out.1.len]; omega), HI.out.1.len, List.getD_eq_getElem?_getD, hx2]
       rfl
      rw [em] at hM
      rw [← hM] at hms
      have r1 : (y : Int).tmod (ln : Int) = ((y % ln : Nat) : Int) := by
       rw [Int.tmod_eq_emod_of_nonneg (by omega)]
       rfl
      have r2 : ((y % ln : Nat) : Int) < (ln : Int) := by have := Nat.mod_lt y hz; omega
      have r3 : (0 : Int) ≤ ((y % ln : Nat) : Int) := by omega
      have z1 : (0 : Int) < (ln : Int) := by omega
      have z2 : ((ln : Int) == 0) = false := by rw [beq_eq_false_iff_ne]; omega
      have z3 : ¬ (ln : Int) = 0 := by omega
      have r4 : IntKind.i64.wrap ((y % ln : Nat) : Int) = ((y % ln : Nat) : Int) := IntWalk.i64_in _ (by have := Nat.mod_le y ln; omega)
      generalize hq : y % ln = qq at *
      have HQ := hid hq
      clear hv hM hbb em c1r hW1 hglt hgb hx2 hx3 hq hz
      go_wp2_with (fail)
      exact ⟨⟨y + 1, HYL.out, rfl, HRN, HGN⟩, Yb HYL.out⟩
    ·obtain rfl : y = fl := by omega
     have HTO := hid (H.out.booted (HBN.out.2.2.2.trans HGy.out) (fs := m.files.mapIdx fun i f => f.lose (more l i)) (N := rredo (m.pend.take x.toNat) m.kept) (fv' := .slice LB y ld) (nv' := .slice L q lc) (by rw [List.length_mapIdx, HFL.out, ← Zev, HFL.out]; exact Zj HRy.out (Nat.zero_le _)) (fun k hk => Nat.le_trans HBN.out.2.2.2.size (HRy.out.lt k hk).1) (by rw [HBN.out.1]; exact Zd HBN.out.2.1 HGy.out) HBN.out.2.2.1)
     have htop := (H.out.grow (HBN.out.2.2.2.trans HGy.out)).top
     have s1 : wr.cell? { block := r, off := 1 } = some fv := htop.cell 1
     have s2 : wr.cell? { block := r, off := 2 } = some nv := htop.cell 2
     have s3 : wr.cell? { block := r, off := 3 } = some kv := htop.cell 3
     have s4 : wr.cell? { block := r, off := 4 } = some pv := htop.cell 4
     have s6 : wr.cell? { block := r, off := 6 } = some (.int .i64 m.fail) := htop.cell 6
     have s7 : wr.cell? { block := r, off := 7 } = some (.int .i64 m.cut) := htop.cell 7
     have s8 : wr.cell? { block := r, off := 8 } = some (.bool m.down) := htop.cell 8
     have g1 : wr.frozen? { block := r, off := 1 } = false := htop.free 1
     have g2 : wr.frozen? { block := r, off := 2 } = false := htop.free 2
     have g3 : wr.frozen? { block := r, off := 3 } = false := htop.free 3
     have g4 : wr.frozen? { block := r, off := 4 } = false := htop.free 4
     have g6 : wr.frozen? { block := r, off := 6 } = false := htop.free 6
     have g7 : wr.frozen? { block := r, off := 7 } = false := htop.free 7
     have g8 : wr.frozen? { block := r, off := 8 } = false := htop.free 8
     clear htop c1r hW1
     go_wp2_with (fail)
     go_end0
     exact ⟨rfl, HTO.out⟩
end
end Go.Proofs.YtlldcogkcjnejaaGreat
