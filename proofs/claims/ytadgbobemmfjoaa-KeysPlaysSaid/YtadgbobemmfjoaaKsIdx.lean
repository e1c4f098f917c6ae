/-
  keys: as which one a key stands in its cell.
-/
import Derived.Test.YtadgbobemmfjoaaKsFind
namespace Go.Proofs.Ytadgbobemmfjoaa
open Go.RowKit
set_option linter.unusedVariables false
set_option linter.unusedSimpArgs false

def idxI (o : Option Nat) : Int := match o with | some i => (i : Int) | none => -1
theorem kidx_first {key : List UInt8} {l : List Pl} {i : Nat} {p : Pl} (h : ∀ j q, j < i → l[j]? = some q → q.key ≠ key) (hp : l[i]? = some p) (he : p.key = key) : idx key l = some i := by
  have hi := (List.getElem?_eq_some_iff.1 hp).1
  unfold idx
  rw [List.findIdx?_eq_some_iff_getElem]
  refine ⟨hi, by rw [(List.getElem?_eq_some_iff.1 hp).2]; simpa using he, fun j hj => ?_⟩
  have := h j _ hj (List.getElem?_eq_getElem (by omega))
  simpa using this
theorem idx_nowhere {key : List UInt8} {l : List Pl} (h : ∀ j q, j < l.length → l[j]? = some q → q.key ≠ key) : idx key l = none := by
  rw [idx_none]
  intro p hp
  obtain ⟨j, hj⟩ := List.mem_iff_getElem?.1 hp
  exact h j p (List.getElem?_eq_some_iff.1 hj).1 hj
/-- No place ahead of i is the key's. -/
def NotYet (key : List UInt8) (l : List Pl) (i : Nat) : Prop := ∀ j q, j < i → l[j]? = some q → q.key ≠ key
set_option maxHeartbeats 1000000 in
theorem index_any (key : List UInt8) {kb : Nat} {A : Option Addr} {n c : Nat} {l : List Pl} (w : World) (h : Pls w A n c l) (hn : n ≤ 1000000) (hkb : w.cell? ⟨kb, 0, none⟩ = some (.string ⟨key.toArray⟩)) :
    Calls Try.prog 46 #[.slice A n c, .func (.func 47) #[] #[.pointer (some ⟨kb, 0, none⟩)]] w fun e w' => e = .returned (.int .i64 (idxI (idx key l))) ∧ Grows w w' := by
  have hb := World.block_lt_of_cell? w ⟨kb, 0, none⟩ hkb
  have HX := Lib.hid (And.intro h (And.intro hkb hb))
  have hlen := h.len
  have HLEN := Lib.hid hlen
  have HI0 := Lib.hid (show NotYet key l 0 from fun j q hj => by omega)
  obtain ⟨I, hI⟩ : ∃ I, idxI (idx key l) = I := ⟨_, rfl⟩
  rw [hI]
  have HIF := Lib.hid (show (∀ (i : Nat) (p : Pl), NotYet key l i → l[i]? = some p → p.key = key → (i : Int) = I) ∧ (NotYet key l n → (-1 : Int) = I) from by
    refine ⟨fun i p h1 h2 h3 => ?_, fun h1 => ?_⟩
    · rw [← hI, kidx_first h1 h2 h3]; rfl
    · rw [← hI, idx_nowhere (fun j q hj => h1 j q (by omega))]; rfl)
  clear h hkb hb hlen hI
  go_enter Try.func46, Try.ntmps46
  go_wp2_with (fail)
  go_loopw [8] (fun vi wr => ∃ (i : Nat), i ≤ n ∧ vi = .int .i64 (i : Int) ∧ Hid (NotYet key l i) ∧ Hid (Grows w wr)) (fun vi _ => n - (intOf vi).toNat)
  case atStart => exact ⟨0, Nat.zero_le _, rfl, HI0, Lib.hid (Grows.refl _)⟩
  case round =>
    obtain ⟨i, hi, rfl, HNY, HG⟩ := hrel
    by_cases hlt : i < n
    · obtain ⟨ad, p, rfl, hp, hbl, hc⟩ := Pls.at HX.out.1 hlt
      obtain ⟨c0, c1, c2, c3, c4⟩ := hc wr HG.out
      have hck := eqkey_any p key wr ((HG.out.cell (p := ⟨kb, 0, none⟩) HX.out.2.2).trans HX.out.2.1)
      obtain ⟨r, hr⟩ : ∃ r, (p.key == key) = r := ⟨_, rfl⟩
      rw [hr] at hck
      obtain ⟨p0, p1, p2, p3, p4⟩ := p
      dsimp only at c0 c1 c2 c3 c4
      have HCK := Lib.hid (show Calls Try.prog 47 #[.agg #[.int .i64 p0, .int .i64 p1, .string ⟨p2.toArray⟩, .int .i64 p3, .int .i64 p4], .pointer (some ⟨kb, 0, none⟩)] wr _ from hck)
      have HP := Lib.hid (And.intro hp hr)
      have k0 : (0 : Int) ≤ (i : Int) := by omega
      have k1 : (i : Int) < (n : Int) := by omega
      clear hck hp hr hbl hc
      go_wp2_with (fail)
      refine HCK.out.mono ?_
      rintro e w4 ⟨rfl, hg4⟩
      have HG4 := Lib.hid (Grows.trans HG.out hg4)
      clear hg4 c0 c1 c2 c3 c4
      cases r
      · go_wp2_with (fail)
        go_roundw
        case rel =>
          refine ⟨i + 1, by omega, by first | rfl | go_num, Lib.hid (fun j q hj hq => ?_), HG4⟩
          by_cases e : j < i
          · exact HNY.out j q e hq
          · obtain rfl : j = i := by omega
            obtain ⟨h1, h2⟩ := HP.out
            rw [h1] at hq
            injection hq with hq
            subst hq
            simpa using h2
        case measure => simp [intOf]; omega
      · go_wp2_with (fail)
        go_ret
        refine ⟨?_, HG4.out⟩
        obtain ⟨h1, h2⟩ := HP.out
        exact congrArg (fun x => Ending.returned (.int .i64 x)) (HIF.out.1 i _ HNY.out h1 (by simpa using h2))
    · go_wp2_with (fail)
      go_ret
      obtain rfl : i = n := by omega
      exact ⟨congrArg (fun x => Ending.returned (.int .i64 x)) (HIF.out.2 HNY.out), HG.out⟩
set_option maxHeartbeats 1000000 in
theorem kfind_any (key : List UInt8) (hk : key.length ≤ 1000000000) {b o g : Nat} {S : Nat → Prop} {cells : List (List Pl)} {vs : List Value} (w : World) (h : RowAt w b o S g cells vs) (h0 : 0 < cells.length) (hn : cells.length ≤ 1000000 ∧ cells.flatten.length ≤ 1000000) :
    Calls Try.prog 40 #[.pointer (some ⟨b, o, none⟩), .string ⟨key.toArray⟩] w fun e w' => e = .returned (.tuple #[.int .i64 (cellOf cells.length key : Nat), .int .i64 (idxI (idx key (cells.getD (cellOf cells.length key) [])))]) ∧ Grows w w' := by
  have hc := cellOf_lt h0 key
  obtain ⟨l, A, cap, hl, hv, hcell, ho, hP, hD⟩ := h.cells.at hc
  have hg1 := grows_alloc w (.cells #[.string ⟨key.toArray⟩] 9)
  have hb1 := Boxed.new w 9 (.string ⟨key.toArray⟩)
  obtain ⟨W1, hW1⟩ : ∃ W1, w.alloc (.cells #[.string ⟨key.toArray⟩] 9) = W1 := ⟨_, rfl⟩
  rw [hW1] at hg1 hb1
  have ck := hb1.cell
  obtain ⟨kb, hkb⟩ : ∃ kb, w.heap.size = kb := ⟨_, rfl⟩
  rw [hkb] at ck hb1
  have hll : l.length ≤ cells.flatten.length := by
    have h1 := set_flat_len (m := []) hl
    simp only [List.length_nil] at h1
    omega
  have HCELL := Lib.hid (cell_any key hk W1 ((hg1.cell (p := ⟨b, o, none⟩) h.ltb).trans h.c0) ⟨h0, hn.1⟩)
  have HX := Lib.hid (And.intro (h.grow hg1) (And.intro hg1 (And.intro hP (And.intro hn hb1))))
  rw [hD]
  obtain ⟨ci, hci⟩ : ∃ ci, cellOf cells.length key = ci := ⟨_, rfl⟩
  obtain ⟨N, hN⟩ : ∃ N, cells.length = N := ⟨_, rfl⟩
  obtain ⟨M, hM⟩ : ∃ M, l.length = M := ⟨_, rfl⟩
  rw [hci, hN] at hc
  rw [hci] at hcell
  rw [hM] at hcell
  rw [hci]
  rw [hci] at HCELL
  have HM := Lib.hid (show Pls w A M cap l ∧ M ≤ 1000000 from ⟨by rw [← hM]; exact hP, by omega⟩)
  have hcell1 := fun w' (hg : Grows w w') => (hg.cell (p := ⟨g, ci, none⟩) (World.block_lt_of_cell? w _ hcell)).trans hcell
  have HC := Lib.hid hcell1
  have c0 := HX.out.1.c0
  rw [hN] at c0
  have hgrow0 := fun w' (hg : Grows W1 w') => ((HX.out.1.grow hg).c0)
  rw [hN] at hgrow0
  have H0 := Lib.hid hgrow0
  clear hcell hcell1 hP ho hv hl hD hll hM hci h hg1 hb1 hn hgrow0
  have k0 : (0 : Int) ≤ (ci : Int) := by omega
  have k1 : (ci : Int) < (N : Int) := by omega
  go_enter Try.func40, Try.ntmps40
  go_wp2_with (first | rw [hW1] | fail)
  refine HCELL.out.mono ?_
  rintro e w2 ⟨rfl, hg2⟩
  have d0 := H0.out w2 hg2
  have d1 := HC.out w2 (Grows.trans HX.out.2.1 hg2)
  have HI := Lib.hid (index_any key w2 (HM.out.1.grow (Grows.trans HX.out.2.1 hg2)) HM.out.2 ((hg2.cell (p := ⟨kb, 0, none⟩) HX.out.2.2.2.2.lt).trans HX.out.2.2.2.2.cell))
  have HG2 := Lib.hid (Grows.trans HX.out.2.1 hg2)
  clear hg2 c0 ck
  go_wp2_with (fail)
  refine HI.out.mono ?_
  rintro e w3 ⟨rfl, hg3⟩
  have HG3 := Lib.hid (Grows.trans HG2.out hg3)
  clear hg3 d0 d1
  go_wp2_with (fail)
  refine bodyPost_ret (results_tmp2 rfl _ _ _) rfl ?_
  exact ⟨rfl, HG3.out⟩
/-- What stands there. -/
def plTo (x : Option Pl) : Value := .tuple #[plV (x.getD Pl.zero), .bool x.isSome]
theorem idx_get {key : List UInt8} {l : List Pl} : (idx key l = none ∧ getL key l = none) ∨ ∃ i p, idx key l = some i ∧ l[i]? = some p ∧ i < l.length ∧ getL key l = some p ∧ p.key = key := by
  have h1 : getL key l = (idx key l).bind fun i => l[i]? := by
    unfold getL idx
    exact List.find?_eq_bind_findIdx?_getElem? ..
  cases hi : idx key l with
  | none => left; rw [h1, hi]; exact ⟨rfl, rfl⟩
  | some i =>
    obtain ⟨p, h2, h3, h4⟩ := idx_some hi
    right
    exact ⟨i, p, rfl, h2, h4, by rw [h1, hi]; exact h2, h3⟩
set_option maxHeartbeats 1000000 in
theorem rget_any (key : List UInt8) (hk : key.length ≤ 1000000000) {b o g : Nat} {S : Nat → Prop} {cells : List (List Pl)} {vs : List Value} (w : World) (h : RowAt w b o S g cells vs) (h0 : 0 < cells.length) (hn : cells.length ≤ 1000000 ∧ cells.flatten.length ≤ 1000000) :
    Calls Try.prog 31 #[.pointer (some ⟨b, o, none⟩), .string ⟨key.toArray⟩] w fun e w' => e = .returned (plTo (getL key (cells.getD (cellOf cells.length key) []))) ∧ Grows w w' := by
  have hc := cellOf_lt h0 key
  obtain ⟨l, A, cap, hl, hv, hcell, ho, hP, hD⟩ := h.cells.at hc
  have hg1 := grows_alloc w (.cells #[.int .i64 0, .int .i64 0, .string ⟨#[]⟩, .int .i64 0, .int .i64 0] 32)
  have hm1 := Whole.made w 32 #[.int .i64 0, .int .i64 0, .string ⟨#[]⟩, .int .i64 0, .int .i64 0]
  obtain ⟨W1, hW1⟩ : ∃ W1, w.alloc (.cells #[.int .i64 0, .int .i64 0, .string ⟨#[]⟩, .int .i64 0, .int .i64 0] 32) = W1 := ⟨_, rfl⟩
  rw [hW1] at hg1 hm1
  obtain ⟨kb, hkb⟩ : ∃ kb, w.heap.size = kb := ⟨_, rfl⟩
  rw [hkb] at hm1
  have HKB := Lib.hid (show w.heap.size ≤ kb from by omega)
  have HF := Lib.hid (kfind_any key hk W1 (h.grow hg1) h0 hn)
  rw [hD] at HF ⊢
  have hll : l.length ≤ cells.flatten.length := by
    have h1 := set_flat_len (m := []) hl
    simp only [List.length_nil] at h1
    omega
  have HX := Lib.hid (And.intro (h.grow hg1) (And.intro hg1 (And.intro (hP.grow hg1) hm1)))
  obtain ⟨ci, hci⟩ : ∃ ci, cellOf cells.length key = ci := ⟨_, rfl⟩
  obtain ⟨N, hN⟩ : ∃ N, cells.length = N := ⟨_, rfl⟩
  obtain ⟨M, hM⟩ : ∃ M, l.length = M := ⟨_, rfl⟩
  rw [hci, hN] at hc
  rw [hci, hM] at hcell
  rw [hci] at HF
  have HM := Lib.hid (show Pls W1 A M cap l ∧ M ≤ 1000000 from ⟨by rw [← hM]; exact HX.out.2.2.1, by omega⟩)
  have hcell1 := fun w' (hg : Grows W1 w') => ((Grows.trans hg1 hg).cell (p := ⟨g, ci, none⟩) (World.block_lt_of_cell? w _ hcell)).trans hcell
  have HC := Lib.hid hcell1
  have hgrow0 := fun w' (hg : Grows W1 w') => ((HX.out.1.grow hg).c0)
  rw [hN] at hgrow0
  have H0 := Lib.hid hgrow0
  have k0 : (0 : Int) ≤ (ci : Int) := by omega
  have k1 : (ci : Int) < (N : Int) := by omega
  have hIG := idx_get (key := key) (l := l)
  have HML := Lib.hid hM
  clear hcell hcell1 hP ho hv hl hD hll hM hci h hg1 hm1 hn hgrow0
  rcases hIG with ⟨e1, e2⟩ | ⟨i, p, e1, e2, e3, e4, e5⟩
  · rw [e1] at HF
    rw [e2]
    clear e1 e2
    go_enter Try.func31, Try.ntmps31
    go_wp2_with (first | rw [hW1] | fail)
    refine HF.out.mono ?_
    rintro e w2 ⟨rfl, hg2⟩
    have hm2 := hg2.whole HX.out.2.2.2
    have HG2 := Lib.hid (And.intro (Grows.trans HX.out.2.1 hg2) hm2)
    clear hg2 hm2
    dsimp only [idxI]
    go_wp2_with (first
      | (refine wpList_store_row rfl 32 _ _ rfl kb #[.int .i64 0, .int .i64 0, .string ⟨#[]⟩, .int .i64 0, .int .i64 0] rfl rfl 32 _ HG2.out.2 sizePl rfl (plV_one _ _ _ _ _) ?_)
      | fail)
    refine bodyPost_ret (results_pl2 rfl _ _ kb 32 (.int .i64 0) (.int .i64 0) (.string ⟨#[]⟩) (.int .i64 0) (.int .i64 0) (.bool false) rfl rfl (HG2.out.2.rowed _)) rfl ?_
    exact ⟨rfl, below_setRow HG2.out.1 HKB.out _⟩
  · rw [e1] at HF
    rw [e4]
    have hiM : i < M := by have := HML.out; omega
    obtain ⟨ad, x, hA, hx, hbl, hcx⟩ := Pls.at HM.out.1 hiM
    obtain rfl : x = p := by rw [e2] at hx; exact (Option.some.inj hx).symm
    subst hA
    obtain ⟨p0, p1, p2, p3, p4⟩ := x
    dsimp only at hcx
    have HP := Lib.hid hcx
    clear e1 e2 e3 e4 e5 hx hbl hcx
    have j0 : (0 : Int) ≤ (i : Int) := by omega
    have j1 : (i : Int) < (M : Int) := by omega
    go_enter Try.func31, Try.ntmps31
    go_wp2_with (first | rw [hW1] | fail)
    refine HF.out.mono ?_
    rintro e w2 ⟨rfl, hg2⟩
    have hm2 := hg2.whole HX.out.2.2.2
    have d0 := H0.out w2 hg2
    have d1 := HC.out w2 hg2
    obtain ⟨q0, q1, q2, q3, q4⟩ := HP.out w2 hg2
    have HG2 := Lib.hid (And.intro (Grows.trans HX.out.2.1 hg2) hm2)
    clear hg2 hm2
    dsimp only [idxI]
    go_wp2_with (first
      | (refine wpList_store_row rfl 32 _ _ rfl kb #[.int .i64 p0, .int .i64 p1, .string ⟨p2.toArray⟩, .int .i64 p3, .int .i64 p4] rfl rfl 32 _ HG2.out.2 sizePl rfl (plV_one _ _ _ _ _) ?_)
      | fail)
    refine bodyPost_ret (results_pl2 rfl _ _ kb 32 (.int .i64 p0) (.int .i64 p1) (.string ⟨p2.toArray⟩) (.int .i64 p3) (.int .i64 p4) (.bool true) rfl rfl (HG2.out.2.rowed _)) rfl ?_
    exact ⟨rfl, below_setRow HG2.out.1 HKB.out _⟩
end Go.Proofs.Ytadgbobemmfjoaa
