/-
  The walk of souterrainref07.Same: are two slices of parts alike?
-/
import Derived.Test.YtfopiifchcaciaaSpRef
namespace Go.Proofs.Ytfopiifchcaciaa
open Go.RowKit
set_option linter.unusedVariables false
set_option linter.unusedSimpArgs false
attribute [local irreducible] Go.wpQuiet

theorem take_nextP {α : Type} (xs ys : List α) (j : Nat) (x : α) (h : xs.take j = ys.take j) (h1 : xs[j]? = some x) (h2 : ys[j]? = some x) : xs.take (j + 1) = ys.take (j + 1) := by
  rw [List.take_add_one, List.take_add_one, h, h1, h2]

set_option maxRecDepth 100000 in
set_option maxHeartbeats 4000000 in
theorem same_parts (A : Option Addr) (n c : Nat) (B : Option Addr) (m d : Nat) (ps qs : List Pt) (w : World) (ha : Pts w A n c ps) (hb : Pts w B m d qs) (hn : n ≤ 1000000000000) :
    Calls Try.prog 20 #[.slice A n c, .slice B m d] w fun e w' => e = .returned (.bool (decide (ps = qs))) ∧ Grows w w' := by
  have hlx := ha.len
  have hly := hb.len
  obtain ⟨b, hbb⟩ : ∃ b, decide (ps = qs) = b := ⟨_, rfl⟩
  rw [hbb]
  have HBB := Lib.hid hbb
  have HX := Lib.hid ha
  have HY := Lib.hid hb
  clear ha hb hbb
  by_cases hnm : n = m
  · have hq : ((n : Int) != (m : Int)) = false := by rw [bne_eq_false_iff_eq]; omega
    have HNM := Lib.hid (And.intro hnm (And.intro hlx hly))
    clear hnm hlx hly
    go_enter Try.func20, Try.ntmps20
    go_wp2_with (fail)
    go_loopw [5] (fun i wr => ∃ (j : Nat), j ≤ n ∧ i = .int .i64 (j : Int) ∧ Hid (ps.take j = qs.take j) ∧ Hid (Grows w wr)) (fun i _ => n - (intOf i).toNat)
    case atStart => exact ⟨0, by omega, rfl, Lib.hid rfl, Lib.hid (Grows.refl _)⟩
    case round =>
      obtain ⟨j, hj, rfl, HT, HG⟩ := hrel
      by_cases hlt : j < n
      · have hlt' : (j : Int) < (n : Int) := by omega
        obtain ⟨ad, ⟨a0, a1, a2⟩, rfl, hx1, hb1, x0, x1, x2⟩ := HX.out.get hlt
        obtain ⟨bd, ⟨b0, b1, b2⟩, rfl, hy1, hb2, y0, y1, y2⟩ := HY.out.get (show j < m by have := HNM.out.1; omega)
        have hltm : (j : Int) < (m : Int) := by have := HNM.out.1; omega
        dsimp only at x0 x1 x2 y0 y1 y2
        have up : ∀ {p : Addr} {v : Value}, w.cell? p = some v → ∀ w', Grows wr w' → w'.cell? p = some v := fun {p v} hp w' h => ((Grows.trans HG.out h).cell (World.block_lt_of_cell? w _ hp)).trans hp
        have HC := Lib.hid (And.intro (up x0) (And.intro (up x1) (And.intro (up x2) (And.intro (up y0) (And.intro (up y1) (up y2))))))
        have HXY := Lib.hid (And.intro hx1 hy1)
        have heq := eq_part a0 a1 a2 b0 b1 b2
        obtain ⟨q, hq2⟩ : ∃ q, decide (a0 = b0 ∧ a1 = b1 ∧ a2 = b2) = q := ⟨_, rfl⟩
        rw [hq2] at heq
        have HD := Lib.hid hq2
        clear x0 x1 x2 y0 y1 y2 hx1 hy1 hb1 hb2 up hq2
        go_wp2_with (fail)
        refine q_region (by kernel_rfl) (by kernel_rfl) ?_
        iterate 9 (refine q_op' (v := ?_) (a' := ?_) (by rfl) ?_ ?_ ?_
                   rotate_left 2
                   · intro w' hC
                     obtain ⟨r0, r1, r2, s0, s1, s2⟩ := HC.out
                     have z0 := r0 w' hC
                     have z1 := r1 w' hC
                     have z2 := r2 w' hC
                     have v0 := s0 w' hC
                     have v1 := s1 w' hC
                     have v2 := s2 w' hC
                     clear r0 r1 r2 s0 s1 s2 hC
                     go_simp
                     try with_reducible rfl
                   · simp only [Act.put, List.setIfInBounds_toArray, List.set_cons_zero, List.set_cons_succ]
                     try rfl)
        refine wpQuiet_nil ?_
        intro w5 hC
        have HG5 := Lib.hid (Grows.trans HG.out hC)
        clear hC heq
        cases q with
        | true =>
          go_wp2_with (fail)
          go_roundw
          case rel =>
            refine ⟨j + 1, by omega, by go_num, Lib.hid ?_, HG5⟩
            have hd := of_decide_eq_true HD.out
            refine take_nextP ps qs j (a0, a1, a2) HT.out HXY.out.1 ?_
            rw [HXY.out.2, hd.1, hd.2.1, hd.2.2]
          case measure => simp [intOf]; omega
        | false =>
          have hbf : b = false := by
            rw [← HBB.out]
            refine decide_eq_false fun e => ?_
            have hd := of_decide_eq_false HD.out
            have h1 := HXY.out.1
            rw [e, HXY.out.2] at h1
            injection h1 with h1
            injection h1 with h1 h2
            injection h2 with h2 h3
            exact hd ⟨h1.symm, h2.symm, h3.symm⟩
          have HBF := Lib.hid hbf
          clear hbf
          go_wp2_with (fail)
          go_ret
          rw [HBF.out]
          exact ⟨rfl, HG5.out⟩
      · obtain rfl : j = n := by omega
        have hbt : b = true := by
          rw [← HBB.out]
          refine decide_eq_true ?_
          have h := HT.out
          obtain ⟨h1, h2, h3⟩ := HNM.out
          rw [List.take_of_length_le (by omega), List.take_of_length_le (by omega)] at h
          exact h
        have HBT := Lib.hid hbt
        clear hbt
        go_wp2_with (fail)
        go_ret
        rw [HBT.out]
        exact ⟨rfl, HG.out⟩
  · have hq : ((n : Int) != (m : Int)) = true := by rw [bne_iff_ne]; omega
    have hbf : b = false := by
      rw [← HBB.out]
      refine decide_eq_false fun e => hnm ?_
      rw [← hlx, ← hly, e]
    have HBF := Lib.hid hbf
    clear hbf hnm
    go_enter Try.func20, Try.ntmps20
    go_wp2_with (fail)
    go_ret
    rw [HBF.out]
    exact ⟨rfl, Grows.refl _⟩
theorem same_true (A : Option Addr) (n c : Nat) (B : Option Addr) (m d : Nat) (ps qs : List Pt) (w : World) (ha : Pts w A n c ps) (hb : Pts w B m d qs) (hn : n ≤ 1000000000000) (he : ps = qs) :
    Calls Try.prog 20 #[.slice A n c, .slice B m d] w fun e w' => e = .returned (.bool true) ∧ Grows w w' := by
  have h := same_parts A n c B m d ps qs w ha hb hn
  rw [decide_eq_true he] at h
  exact h
end Go.Proofs.Ytfopiifchcaciaa
