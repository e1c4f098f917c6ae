/-
  The walk of the answer's SameNames, of rows of keys.
-/
import Derived.Test.YtadgbobemmfjoaaKsFirst
import Derived.LoopTactic
import Derived.IntWalk
import Derived.Lib.Hide
import Derived.WalkLawsBesides
namespace Go.Proofs.Ytadgbobemmfjoaa
open Go.RowKit
set_option linter.unusedSimpArgs false
set_option linter.unusedVariables false
attribute [local irreducible] Go.wpQuiet

theorem krow_str {w : World} {B n : Nat} {A : Option Addr} {xs : Ks} (h : Row w B A n (xs.map kS)) {j : Nat} (hj : j < n) : ∃ ad x, A = some ad ∧ w.cell? (ad.add j) = some (.string ⟨x.toArray⟩) ∧ xs[j]? = some x ∧ ad.block < B := by
  have hl : xs.length = n := by have := h.len; simpa using this
  have hx : xs[j]? = some xs[j] := List.getElem?_eq_getElem (by omega)
  obtain ⟨ad, hA, hb, hc⟩ := h.spot j (kS xs[j]) (by rw [List.getElem?_map, hx]; rfl)
  exact ⟨ad, xs[j], hA, hc, hx, hb⟩
theorem kaddBlock (ad : Addr) (k : Nat) : (ad.add k).block = ad.block := by unfold Addr.add; split <;> rfl
theorem ktake_more {α : Type} (xs ys : List α) (j : Nat) (x : α) (h : xs.take j = ys.take j) (h1 : xs[j]? = some x) (h2 : ys[j]? = some x) : xs.take (j + 1) = ys.take (j + 1) := by
  rw [List.take_add_one, List.take_add_one, h, h1, h2]

set_option maxRecDepth 100000 in
set_option maxHeartbeats 4000000 in
theorem ksame_names (A : Option Addr) (n c : Nat) (B : Option Addr) (m d : Nat) (xs ys : Ks) (w : World) (ha : Row w w.heap.size A n (xs.map kS)) (hb : Row w w.heap.size B m (ys.map kS)) (hn : n ≤ 1000000000000) :
    Calls Try.prog 17 #[.slice A n c, .slice B m d] w fun e w' => e = .returned (.bool (decide (xs = ys))) ∧ Grows w w' := by
  have hlx : xs.length = n := by have := ha.len; simpa using this
  have hly : ys.length = m := by have := hb.len; simpa using this
  obtain ⟨b, hbb⟩ : ∃ b, decide (xs = ys) = b := ⟨_, rfl⟩
  rw [hbb]
  have HBB := Lib.hid hbb
  have HX := Lib.hid ha
  have HY := Lib.hid hb
  clear ha hb hbb
  by_cases hnm : n = m
  · have hq : ((n : Int) != (m : Int)) = false := by rw [bne_eq_false_iff_eq]; omega
    have HNM := Lib.hid hnm
    clear hnm
    go_enter Try.func17, Try.ntmps17
    go_wp2_with (fail)
    go_loopw [5] (fun i wr => ∃ (j : Nat), j ≤ n ∧ i = .int .i64 (j : Int) ∧ Hid (xs.take j = ys.take j) ∧ Hid (Grows w wr)) (fun i _ => n - (intOf i).toNat)
    case atStart => exact ⟨0, by omega, rfl, Lib.hid rfl, Lib.hid (Grows.refl _)⟩
    case round =>
      obtain ⟨j, hj, rfl, HT, HG⟩ := hrel
      by_cases hlt : j < n
      · have hlt' : (j : Int) < (n : Int) := by omega
        obtain ⟨ad, x, rfl, hc1, hx1, hb1⟩ := krow_str HX.out hlt
        obtain ⟨ad2, y, rfl, hc2, hy1, hb2⟩ := krow_str HY.out (show j < m by have := HNM.out; omega)
        have hltm : (j : Int) < (m : Int) := by have := HNM.out; omega
        have HC1 := Lib.hid (show ∀ w', Grows wr w' → w'.cell? (ad.add j) = some (.string ⟨x.toArray⟩) from fun w' h => by
          rw [(Grows.trans HG.out h).cell (by rw [kaddBlock]; exact hb1)]; exact hc1)
        have HC2 := Lib.hid (show ∀ w', Grows wr w' → w'.cell? (ad2.add j) = some (.string ⟨y.toArray⟩) from fun w' h => by
          rw [(Grows.trans HG.out h).cell (by rw [kaddBlock]; exact hb2)]; exact hc2)
        have HXY := Lib.hid (And.intro hx1 hy1)
        clear hc1 hc2 hx1 hy1
        go_wp2_with (fail)
        refine q_region (by kernel_rfl) (by kernel_rfl) ?_
        iterate 9 (refine q_op' (v := ?_) (a' := ?_) (by rfl) ?_ ?_ ?_
                   rotate_left 2
                   · intro w' hC
                     have c1 := HC1.out w' hC
                     have c2 := HC2.out w' hC
                     go_simp
                     try with_reducible rfl
                   · simp only [Pu]
                     try rfl)
        refine wpQuiet_nil ?_
        intro w5 hC
        have HG5 := Lib.hid (Grows.trans HG.out hC)
        clear hC
        by_cases hxy : x = y
        · have hxf : (x != y) = false := by rw [bne_eq_false_iff_eq]; exact hxy
          have HXE := Lib.hid hxy
          have HN := Lib.hid (ktake_more xs ys j x HT.out HXY.out.1 (by rw [hxy]; exact HXY.out.2))
          clear hxy
          go_wp2_with (fail)
          · rename_i hh
            rw [HXE.out] at hh
            simp at hh
          · exact ⟨⟨j + 1, by omega, rfl, HN, HG5⟩, by simp [intOf]; omega⟩
        · have hxf : (x != y) = true := by rw [bne_iff_ne]; exact hxy
          have HXE := Lib.hid hxy
          have hbf : b = false := by
            rw [← HBB.out]
            refine decide_eq_false fun e => hxy ?_
            have h1 := HXY.out.1
            rw [e, HXY.out.2] at h1
            exact (Option.some.inj h1).symm
          have HBF := Lib.hid hbf
          clear hxy hbf
          go_wp2_with (fail)
          · go_ret
            rw [HBF.out]
            exact ⟨rfl, HG5.out⟩
          · rename_i hh
            exfalso
            have hx := HXE.out
            simp [hx] at hh
      · obtain rfl : j = n := by omega
        have hbt : b = true := by
          rw [← HBB.out]
          refine decide_eq_true ?_
          have h := HT.out
          rw [List.take_of_length_le (by omega), List.take_of_length_le (by have := HNM.out; omega)] at h
          exact h
        have HBT := Lib.hid hbt
        clear hbt
        go_wp2_with (fail)
        go_ret
        rw [HBT.out]
        exact ⟨rfl, HG.out⟩
  · have hq : ((n : Int) != (m : Int)) = true := by rw [bne_iff_ne]; omega
    have hbf : b = false := by
      rw [← HBB.out]
      refine decide_eq_false fun e => hnm ?_
      rw [← hlx, ← hly, e]
    have HBF := Lib.hid hbf
    clear hbf hnm
    go_enter Try.func17, Try.ntmps17
    go_wp2_with (fail)
    go_ret
    rw [HBF.out]
    exact ⟨rfl, Grows.refl _⟩
end Go.Proofs.Ytadgbobemmfjoaa
