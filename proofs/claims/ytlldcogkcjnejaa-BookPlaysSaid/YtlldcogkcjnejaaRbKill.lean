/-
  The document's answer to book: Kill.
-/
import Derived.Test.YtlldcogkcjnejaaRbSet
namespace Go.Proofs.Ytlldcogkcjnejaa
open Go.RowKit Go.Shelf Go.Maps Go.Sort
set_option linter.unusedVariables false
set_option linter.unusedSimpArgs false

set_option maxRecDepth 100000 in
set_option maxHeartbeats 4000000 in
theorem rkill_use {q c : Nat} {A : Option Addr} {l : List Us} {w : World} (h : RbAt w q A c l) {M : Nat} (hok : UOk M 1000000 l) (k n : Int) :
    Calls Try.prog 13 #[.pointer (some ⟨q, 0, none⟩), .int .i64 k, .int .i64 n] w fun e w' => e = .returned (.bool (killB k n l)) ∧ RbTo w q A (killU k n l) w' := by
  have hn := hok.few
  cases hf : ufind k l with
  | none =>
    have hb0 : killB k n l = false := by unfold killB hasU; rw [hf]; rfl
    have hu0 : killU k n l = l := by unfold killU; rw [hb0, if_neg (by decide)]
    rw [hb0, hu0]
    have HA := Lib.hid (at_none h hn hf)
    have HX := Lib.hid h
    clear h hf hb0 hu0
    go_enter Try.func13, Try.ntmps13
    go_wp2_with (fail)
    refine HA.out.mono ?_
    rintro e w1 ⟨rfl, hg1⟩
    have H1 := Lib.hid hg1
    clear hg1
    go_wp2_with (fail)
    go_ret
    exact ⟨rfl, RbTo.keep HX.out H1.out⟩
  | some x =>
    have hu : useOf k l = x ∧ hasU k l = true := by unfold useOf hasU; rw [hf]; exact ⟨rfl, rfl⟩
    obtain ⟨j, hj, hx⟩ := find_at hf
    have hkb : killB k n l = decide (0 ≤ n ∧ n ≤ x.live) := by unfold killB; rw [hu.1, hu.2, Bool.true_and]
    have hke := hok.each x (List.mem_of_getElem? hj)
    have HA := Lib.hid (at_some h hn hok.rise hj hx)
    obtain ⟨m, hl⟩ : ∃ n, l.length = n := ⟨_, rfl⟩
    have hjn : j < m := by rw [← hl]; exact (List.getElem?_eq_some_iff.1 hj).1
    have HB := Lib.hid (show Boxed w q 54 (.slice A m c) ∧ Uss w A m c l ∧ m ≤ 1000000 from by have h1 := h.box; have h2 := h.row; rw [hl] at h1 h2; exact ⟨h1, h2, by omega⟩)
    have hku : killB k n l = true → killU k n l = l.set j ⟨x.seg, x.all, x.live - n⟩ := fun hb => by
      unfold killU
      rw [if_pos hb, hu.1, ← hx]
      exact uput_set hok.rise hj rfl
    have hkn : killB k n l = false → killU k n l = l := fun hb => by unfold killU; rw [hb, if_neg (by decide)]
    have HX := Lib.hid (show RbAt w q A c l ∧ l[j]? = some x ∧ l.length = m from ⟨h, hj, hl⟩)
    have hm6 := HB.out.2.2
    have key : ∀ w1, Grows w w1 → ∃ ad, A = some ad ∧ w1.cell? { block := q, off := 0 } = some (.slice A m c) ∧ w1.cell? (ad.add (j * 3)) = some (.int .i64 x.seg) ∧ w1.cell? { block := (ad.add (j * 3)).block, off := (ad.add (j * 3)).off + 1 } = some (.int .i64 x.all) ∧
        w1.cell? { block := (ad.add (j * 3)).block, off := (ad.add (j * 3)).off + 2 } = some (.int .i64 x.live) := fun w1 hgw => by
      obtain ⟨ad, y, hA, hy, hbl, hcy⟩ := Uss.at (HB.out.2.1.grow hgw) hjn
      have hyx : y = x := by have := HX.out.2.1; rw [hy] at this; exact Option.some.inj this
      subst hyx
      obtain ⟨c0, c1, c2⟩ := hcy w1 (Grows.refl _)
      have hbw : Boxed w1 q 54 (.slice A m c) := (hgw.block _ HB.out.1.lt).trans HB.out.1
      exact ⟨ad, hA, hbw.cell, c0, c1, c2⟩
    have HK := Lib.hid key
    have k0 : (0 : Int) ≤ (j : Int) := by omega
    have k1 : (j : Int) < (m : Int) := by omega
    clear h hf hu hj hx hl key
    obtain ⟨x0, x1, x2⟩ := x
    dsimp only at hkb hku hke HK
    by_cases q1 : n < 0
    · have hb0 : killB k n l = false := by rw [hkb]; exact decide_eq_false (by omega)
      rw [hb0, hkn hb0]
      clear hkb hku hkn hb0 hke
      go_enter Try.func13, Try.ntmps13
      go_wp2_with (fail)
      refine HA.out.mono ?_
      rintro e w1 ⟨rfl, hg1⟩
      have H1 := Lib.hid hg1
      clear hg1
      go_wp2_with (fail)
      go_ret
      exact ⟨rfl, RbTo.keep HX.out.1 H1.out⟩
    by_cases q2 : x2 < n
    · have hb0 : killB k n l = false := by rw [hkb]; exact decide_eq_false (by omega)
      rw [hb0, hkn hb0]
      clear hkb hku hkn hb0 hke
      go_enter Try.func13, Try.ntmps13
      go_wp2_with (fail)
      refine HA.out.mono ?_
      rintro e w1 ⟨rfl, hg1⟩
      obtain ⟨ad, hA, d0, c0, c1, c2⟩ := HK.out w1 hg1
      subst hA
      have H1 := Lib.hid hg1
      clear hg1
      go_wp2_with (fail)
      go_ret
      exact ⟨rfl, RbTo.keep HX.out.1 H1.out⟩
    have hb1 : killB k n l = true := by rw [hkb]; exact decide_eq_true (by omega)
    rw [hb1, hku hb1]
    obtain ⟨d, hd⟩ : ∃ d, x2 - n = d := ⟨_, rfl⟩
    have HWD := Lib.hid (wrapI (x := d) (by omega) (by omega))
    rw [hd]
    clear hkb hku hkn hb1 hke
    go_enter Try.func13, Try.ntmps13
    go_wp2_with (fail)
    refine HA.out.mono ?_
    rintro e w1 ⟨rfl, hg1⟩
    obtain ⟨ad, hA, d0, c0, c1, c2⟩ := HK.out w1 hg1
    subst hA
    obtain ⟨W1, hW1⟩ : ∃ W1, w1.alloc (.cells #[.int .i64 x0, .int .i64 x1, .int .i64 x2] 34) = W1 := ⟨_, rfl⟩
    have hg2 : Grows w1 W1 := hW1 ▸ grows_alloc _ _
    have hm1 : Whole W1 w1.heap.size 34 #[.int .i64 x0, .int .i64 x1, .int .i64 x2] := by rw [← hW1]; exact Whole.made _ _ _
    have e2 := hm1.cell 2
    have fz := hm1.free 2
    have hm2 : Whole (W1.setCell ⟨w1.heap.size, 2, none⟩ (.int .i64 d)) w1.heap.size 34 #[.int .i64 x0, .int .i64 x1, .int .i64 d] := hm1.put 2 _
    have hg3 : Grows w1 (W1.setCell ⟨w1.heap.size, 2, none⟩ (.int .i64 d)) := Below.setCell (p := ⟨w1.heap.size, 2, none⟩) hg2 (Nat.le_refl _) _
    obtain ⟨W2, hW2⟩ : ∃ W2, W1.setCell ⟨w1.heap.size, 2, none⟩ (.int .i64 d) = W2 := ⟨_, rfl⟩
    rw [hW2] at hm2 hg3
    have g0 := hm2.cell 0
    have g1 := hm2.cell 1
    have g2 := hm2.cell 2
    simp only [List.getElem?_toArray, List.getElem?_cons_zero, List.getElem?_cons_succ] at e2 g0 g1 g2
    have hgw := Grows.trans hg1 hg3
    have HST := Lib.hid (show Calls Try.prog 29 #[.pointer (some ⟨q, 0, none⟩), .int .i64 (j : Int), .agg #[.int .i64 x0, .int .i64 x1, .int .i64 d]] W2 fun e w' => e = .returned (.tuple #[]) ∧ RbTo W2 q (some ad) (l.set j ⟨x0, x1, d⟩) w' from
      rset_use (HX.out.1.grow hgw) (by have := HX.out.2.2; omega) (by have := HX.out.2.2; omega) ⟨x0, x1, d⟩)
    have HGW := Lib.hid hgw
    obtain ⟨wd1, wd2⟩ := HWD.out
    clear hg1 hg2 hm1 hm2 hg3 hgw
    go_wp2_with (first | rw [hW1] | rw [hW2] | fail)
    refine HST.out.mono ?_
    rintro e w5 ⟨rfl, hto⟩
    have HTO := Lib.hid hto
    clear hto
    go_wp2_with (fail)
    go_ret
    exact ⟨rfl, RbTo.trans HGW.out HTO.out⟩
end Go.Proofs.Ytlldcogkcjnejaa
