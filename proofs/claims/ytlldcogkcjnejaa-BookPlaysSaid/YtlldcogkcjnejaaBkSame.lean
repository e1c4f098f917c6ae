/-
  The walks of souterrainref12.Same (two slices of uses) and of souterrainref05.SameInts.
-/
import Derived.Test.YtlldcogkcjnejaaBkWorst
import Derived.Laws.StructEq
import Derived.LoopTactic
import Derived.IntWalk
import Derived.Lib.Hide
import Derived.WalkLawsBesides
namespace Go.Proofs.Ytlldcogkcjnejaa
open Go.RowKit
set_option linter.unusedVariables false
set_option linter.unusedSimpArgs false
attribute [local irreducible] Go.wpQuiet

def intB (x : Int) : Value := .int .i64 x
theorem row_intI {w : World} {B n : Nat} {A : Option Addr} {xs : List Int} (h : Row w B A n (xs.map intB)) {j : Nat} (hj : j < n) : ∃ ad x, A = some ad ∧ w.cell? (ad.add j) = some (.int .i64 x) ∧ xs[j]? = some x ∧ ad.block < B := by
  have hl : xs.length = n := by have := h.len; simpa using this
  have hx : xs[j]? = some xs[j] := List.getElem?_eq_getElem (by omega)
  obtain ⟨ad, hA, hb, hc⟩ := h.spot j (intB xs[j]) (by rw [List.getElem?_map, hx]; rfl)
  exact ⟨ad, xs[j], hA, hc, hx, hb⟩
theorem take_nextI {α : Type} (xs ys : List α) (j : Nat) (x : α) (h : xs.take j = ys.take j) (h1 : xs[j]? = some x) (h2 : ys[j]? = some x) : xs.take (j + 1) = ys.take (j + 1) := by
  rw [List.take_add_one, List.take_add_one, h, h1, h2]

set_option maxRecDepth 100000 in
set_option maxHeartbeats 4000000 in
theorem same_intsB (A : Option Addr) (n c : Nat) (B : Option Addr) (m d : Nat) (xs ys : List Int) (w : World) (ha : Row w w.heap.size A n (xs.map intB)) (hb : Row w w.heap.size B m (ys.map intB)) (hn : n ≤ 1000000000000) :
    Calls Try.prog 25 #[.slice A n c, .slice B m d] w fun e w' => e = .returned (.bool (decide (xs = ys))) ∧ Grows w w' := by
  have hlx : xs.length = n := by have := ha.len; simpa using this
  have hly : ys.length = m := by have := hb.len; simpa using this
  obtain ⟨b, hbb⟩ : ∃ b, decide (xs = ys) = b := ⟨_, rfl⟩
  rw [hbb]
  have HBB := Lib.hid hbb
  have HX := Lib.hid ha
  have HY := Lib.hid hb
  clear ha hb hbb
  by_cases hnm : n = m
  · have hq : ((n : Int) != (m : Int)) = false := by rw [bne_eq_false_iff_eq]; omega
    have HNM := Lib.hid hnm
    clear hnm
    go_enter Try.func25, Try.ntmps25
    go_wp2_with (fail)
    go_loopw [5] (fun i wr => ∃ (j : Nat), j ≤ n ∧ i = .int .i64 (j : Int) ∧ Hid (xs.take j = ys.take j) ∧ Hid (Grows w wr)) (fun i _ => n - (intOf i).toNat)
    case atStart => exact ⟨0, by omega, rfl, Lib.hid rfl, Lib.hid (Grows.refl _)⟩
    case round =>
      obtain ⟨j, hj, rfl, HT, HG⟩ := hrel
      by_cases hlt : j < n
      · have hlt' : (j : Int) < (n : Int) := by omega
        obtain ⟨ad, x, rfl, hc1, hx1, hb1⟩ := row_intI HX.out hlt
        obtain ⟨ad2, y, rfl, hc2, hy1, hb2⟩ := row_intI HY.out (show j < m by have := HNM.out; omega)
        have hltm : (j : Int) < (m : Int) := by have := HNM.out; omega
        have HC1 := Lib.hid (show ∀ w', Grows wr w' → w'.cell? (ad.add j) = some (.int .i64 x) from fun w' h => by
          rw [(Grows.trans HG.out h).cell (by rw [add_block]; exact hb1)]; exact hc1)
        have HC2 := Lib.hid (show ∀ w', Grows wr w' → w'.cell? (ad2.add j) = some (.int .i64 y) from fun w' h => by
          rw [(Grows.trans HG.out h).cell (by rw [add_block]; exact hb2)]; exact hc2)
        have HXY := Lib.hid (And.intro hx1 hy1)
        clear hc1 hc2 hx1 hy1
        go_wp2_with (fail)
        refine q_region (by kernel_rfl) (by kernel_rfl) ?_
        iterate 9 (refine q_op' (v := ?_) (a' := ?_) (by rfl) ?_ ?_ ?_
                   rotate_left 2
                   · intro w' hC
                     have c1 := HC1.out w' hC
                     have c2 := HC2.out w' hC
                     go_simp
                     try with_reducible rfl
                   · simp only [Act.put, List.setIfInBounds_toArray, List.set_cons_zero, List.set_cons_succ]
                     try rfl)
        refine wpQuiet_nil ?_
        intro w5 hC
        have HG5 := Lib.hid (Grows.trans HG.out hC)
        clear hC
        by_cases hxy : x = y
        · have hxf : (x != y) = false := by rw [bne_eq_false_iff_eq]; exact hxy
          have HN := Lib.hid (take_nextI xs ys j x HT.out HXY.out.1 (by rw [hxy]; exact HXY.out.2))
          clear hxy
          go_wp2_with (fail)
          exact ⟨⟨j + 1, by omega, rfl, HN, HG5⟩, by simp [intOf]; omega⟩
        · have hxf : (x != y) = true := by rw [bne_iff_ne]; exact hxy
          have hbf : b = false := by
            rw [← HBB.out]
            refine decide_eq_false fun e => hxy ?_
            have h1 := HXY.out.1
            rw [e, HXY.out.2] at h1
            exact (Option.some.inj h1).symm
          have HBF := Lib.hid hbf
          clear hxy hbf
          go_wp2_with (fail)
          go_ret
          rw [HBF.out]
          exact ⟨rfl, HG5.out⟩
      · obtain rfl : j = n := by omega
        have hbt : b = true := by
          rw [← HBB.out]
          refine decide_eq_true ?_
          have h := HT.out
          rw [List.take_of_length_le (by omega), List.take_of_length_le (by have := HNM.out; omega)] at h
          exact h
        have HBT := Lib.hid hbt
        clear hbt
        go_wp2_with (fail)
        go_ret
        rw [HBT.out]
        exact ⟨rfl, HG.out⟩
  · have hq : ((n : Int) != (m : Int)) = true := by rw [bne_iff_ne]; omega
    have hbf : b = false := by
      rw [← HBB.out]
      refine decide_eq_false fun e => hnm ?_
      rw [← hlx, ← hly, e]
    have HBF := Lib.hid hbf
    clear hbf hnm
    go_enter Try.func25, Try.ntmps25
    go_wp2_with (fail)
    go_ret
    rw [HBF.out]
    exact ⟨rfl, Grows.refl _⟩
theorem eq_use3 (a b c d e f : Int) (w : World) : (Op.equalIn 10000 34 (.agg #[.int .i64 a, .int .i64 b, .int .i64 c]) (.agg #[.int .i64 d, .int .i64 e, .int .i64 f])).run Try.prog w = .ok (decide (a = d ∧ b = e ∧ c = f)) w := by
  have hf : Try.prog.fieldsOf 34 = #[{ name := "Seg", type := 3, offset := 0, embedded := false, tag := "", pkgPath := "", byteOffset := 0 }, { name := "All", type := 2, offset := 1, embedded := false, tag := "", pkgPath := "", byteOffset := 8 }, { name := "Live", type := 2, offset := 2, embedded := false, tag := "", pkgPath := "", byteOffset := 16 }] := by
    unfold Program.fieldsOf
    rw [Try.underlying34]
  have hu : Try.prog.underlying 34 = some (.struct (Try.prog.fieldsOf 34)) := by rw [hf]; exact Try.underlying34
  have hp : Try.prog.stoodInHeld 34 = false := by kernel_rfl
  have hi : ∀ w, (isAgg 3).run Try.prog w = .ok false w := fun w => by kernel_rfl
  have hi4 : ∀ w, (isAgg 2).run Try.prog w = .ok false w := fun w => by kernel_rfl
  have he4 : ∀ (x y : Int) (w : World), (Op.equalIn 9999 2 (.int .i64 x) (.int .i64 y)).run Try.prog w = .ok (x == y) w := fun x y w => run_equalIn_int w 9998 _ _ _ x y Try.underlying2
  have he : ∀ (x y : Int) (w : World), (Op.equalIn 9999 3 (.int .i64 x) (.int .i64 y)).run Try.prog w = .ok (x == y) w := fun x y w => run_equalIn_int w 9998 _ _ _ x y Try.underlying3
  rw [run_equalIn_struct w 9999 _ _ _ hu hp, hf]
  have hpa : ∀ (cs : Array Value) (i : Nat) (v : Value) (w : World), cs[i]? = some v → (part 3 cs i).run Try.prog w = .ok v w := fun cs i v w h => by
    simp [part, hi, h]
  have hpb : ∀ (cs : Array Value) (i : Nat) (v : Value) (w : World), cs[i]? = some v → (part 2 cs i).run Try.prog w = .ok v w := fun cs i v w h => by
    simp [part, hi4, h]
  have h0 := fun w => hpa #[.int .i64 a, .int .i64 b, .int .i64 c] 0 (.int .i64 a) w rfl
  have h1 := fun w => hpb #[.int .i64 a, .int .i64 b, .int .i64 c] 1 (.int .i64 b) w rfl
  have h2 := fun w => hpb #[.int .i64 a, .int .i64 b, .int .i64 c] 2 (.int .i64 c) w rfl
  have g0 := fun w => hpa #[.int .i64 d, .int .i64 e, .int .i64 f] 0 (.int .i64 d) w rfl
  have g1 := fun w => hpb #[.int .i64 d, .int .i64 e, .int .i64 f] 1 (.int .i64 e) w rfl
  have g2 := fun w => hpb #[.int .i64 d, .int .i64 e, .int .i64 f] 2 (.int .i64 f) w rfl
  by_cases e1 : a = d
  · subst e1
    by_cases e2 : b = e
    · subst e2
      by_cases e3 : c = f
      · subst e3
        simp [Op.eqFields, h0, h1, h2, he, he4]
      · have b3 : (c == f) = false := by simpa using e3
        simp [Op.eqFields, h0, h1, h2, g0, g1, g2, he, he4, b3, e3]
    · have b2 : (b == e) = false := by simpa using e2
      simp [Op.eqFields, h0, h1, g0, g1, he, he4, b2, e2]
  · have b1 : (a == d) = false := by simpa using e1
    simp [Op.eqFields, h0, g0, he, he4, b1, e1]

theorem eq_use (x y : Us) (w : World) : (Op.equalIn 10000 34 (usV x) (usV y)).run Try.prog w = .ok (decide (x = y)) w := by
  obtain ⟨a, b, c⟩ := x
  obtain ⟨d, e, f⟩ := y
  have hd : decide ((⟨a, b, c⟩ : Us) = ⟨d, e, f⟩) = decide (a = d ∧ b = e ∧ c = f) := by
    rw [Bool.eq_iff_iff]
    simp
  rw [hd]
  exact eq_use3 a b c d e f w
theorem take_nextU {α : Type} (xs ys : List α) (j : Nat) (x : α) (h : xs.take j = ys.take j) (h1 : xs[j]? = some x) (h2 : ys[j]? = some x) : xs.take (j + 1) = ys.take (j + 1) := by
  rw [List.take_add_one, List.take_add_one, h, h1, h2]

set_option maxRecDepth 100000 in
set_option maxHeartbeats 4000000 in
theorem same_uses (A : Option Addr) (n c : Nat) (B : Option Addr) (m d : Nat) (ps qs : List Us) (w : World) (ha : Uss w A n c ps) (hb : Uss w B m d qs) (hn : n ≤ 1000000000000) :
    Calls Try.prog 22 #[.slice A n c, .slice B m d] w fun e w' => e = .returned (.bool (decide (ps = qs))) ∧ Grows w w' := by
  have hlx := ha.len
  have hly := hb.len
  obtain ⟨b, hbb⟩ : ∃ b, decide (ps = qs) = b := ⟨_, rfl⟩
  rw [hbb]
  have HBB := Lib.hid hbb
  have HX := Lib.hid ha
  have HY := Lib.hid hb
  clear ha hb hbb
  by_cases hnm : n = m
  · have hq : ((n : Int) != (m : Int)) = false := by rw [bne_eq_false_iff_eq]; omega
    have HNM := Lib.hid (And.intro hnm (And.intro hlx hly))
    clear hnm hlx hly
    go_enter Try.func22, Try.ntmps22
    go_wp2_with (fail)
    go_loopw [5] (fun i wr => ∃ (j : Nat), j ≤ n ∧ i = .int .i64 (j : Int) ∧ Hid (ps.take j = qs.take j) ∧ Hid (Grows w wr)) (fun i _ => n - (intOf i).toNat)
    case atStart => exact ⟨0, by omega, rfl, Lib.hid rfl, Lib.hid (Grows.refl _)⟩
    case round =>
      obtain ⟨j, hj, rfl, HT, HG⟩ := hrel
      by_cases hlt : j < n
      · have hlt' : (j : Int) < (n : Int) := by omega
        obtain ⟨ad, xx, rfl, hx1, hb1, hcx⟩ := Uss.at HX.out hlt
        obtain ⟨bd, yy, rfl, hy1, hb2, hcy⟩ := Uss.at HY.out (show j < m by have := HNM.out.1; omega)
        have hltm : (j : Int) < (m : Int) := by have := HNM.out.1; omega
        have HC := Lib.hid (fun w' (hC : Grows wr w') => And.intro (hcx w' (Grows.trans HG.out hC)) (hcy w' (Grows.trans HG.out hC)))
        have HXY := Lib.hid (And.intro hx1 hy1)
        have heq := fun w => eq_use xx yy w
        obtain ⟨q, hq2⟩ : ∃ q, decide (xx = yy) = q := ⟨_, rfl⟩
        rw [hq2] at heq
        have HD := Lib.hid hq2
        unfold usV at heq
        clear hx1 hy1 hb1 hb2 hq2 hcx hcy
        go_wp2_with (fail)
        refine q_region (by kernel_rfl) (by kernel_rfl) ?_
        iterate 9 (refine q_op' (v := ?_) (a' := ?_) (by rfl) ?_ ?_ ?_
                   rotate_left 2
                   · intro w' hC
                     obtain ⟨⟨z0, z1, z2⟩, v0, v1, v2⟩ := HC.out w' hC
                     clear hC
                     go_simp
                     try with_reducible rfl
                   · simp only [Act.put, List.setIfInBounds_toArray, List.set_cons_zero, List.set_cons_succ]
                     try rfl)
        refine wpQuiet_nil ?_
        intro w5 hC
        have HG5 := Lib.hid (Grows.trans HG.out hC)
        clear hC heq
        cases q with
        | true =>
          go_wp2_with (fail)
          go_roundw
          case rel =>
            refine ⟨j + 1, by omega, by go_num, Lib.hid ?_, HG5⟩
            have hd := of_decide_eq_true HD.out
            refine take_nextU ps qs j xx HT.out HXY.out.1 ?_
            rw [HXY.out.2, hd]
          case measure => simp [intOf]; omega
        | false =>
          have hbf : b = false := by
            rw [← HBB.out]
            refine decide_eq_false fun e => ?_
            have hd := of_decide_eq_false HD.out
            have h1 := HXY.out.1
            rw [e, HXY.out.2] at h1
            injection h1 with h1
            exact hd h1.symm
          have HBF := Lib.hid hbf
          clear hbf
          go_wp2_with (fail)
          go_ret
          rw [HBF.out]
          exact ⟨rfl, HG5.out⟩
      · obtain rfl : j = n := by omega
        have hbt : b = true := by
          rw [← HBB.out]
          refine decide_eq_true ?_
          have h := HT.out
          obtain ⟨h1, h2, h3⟩ := HNM.out
          rw [List.take_of_length_le (by omega), List.take_of_length_le (by omega)] at h
          exact h
        have HBT := Lib.hid hbt
        clear hbt
        go_wp2_with (fail)
        go_ret
        rw [HBT.out]
        exact ⟨rfl, HG.out⟩
  · have hq : ((n : Int) != (m : Int)) = true := by rw [bne_iff_ne]; omega
    have hbf : b = false := by
      rw [← HBB.out]
      refine decide_eq_false fun e => hnm ?_
      rw [← hlx, ← hly, e]
    have HBF := Lib.hid hbf
    clear hbf hnm
    go_enter Try.func22, Try.ntmps22
    go_wp2_with (fail)
    go_ret
    rw [HBF.out]
    exact ⟨rfl, Grows.refl _⟩
end Go.Proofs.Ytlldcogkcjnejaa
