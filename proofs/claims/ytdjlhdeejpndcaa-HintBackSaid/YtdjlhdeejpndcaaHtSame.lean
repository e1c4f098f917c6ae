/-
  The walk of souterrainref11.Same: are two slices of hints alike?
-/
import Derived.Test.YtdjlhdeejpndcaaHtMem
import Derived.Test.YtdjlhdeejpndcaaQuiet
import Derived.Test.YtdjlhdeejpndcaaSteps
import Derived.Laws.StructEq
import Derived.LoopTactic
import Derived.Lib.Hide
namespace Go.Proofs.Ytdjlhdeejpndcaa
open Go.RowKit
set_option linter.unusedVariables false
set_option linter.unusedSimpArgs false
attribute [local irreducible] Go.wpQuiet

theorem ht_ext {x y : Ht} (h : x.kind = y.kind ∧ x.key = y.key ∧ x.at_ = y.at_ ∧ x.size = y.size) : x = y := by
  obtain ⟨a, b, c, d⟩ := x
  obtain ⟨a', b', c', d'⟩ := y
  obtain ⟨h1, h2, h3, h4⟩ := h
  dsimp only at h1 h2 h3 h4
  rw [h1, h2, h3, h4]
instance : DecidableEq Ht := fun x y => decidable_of_iff (x.kind = y.kind ∧ x.key = y.key ∧ x.at_ = y.at_ ∧ x.size = y.size) ⟨ht_ext, fun h => h ▸ ⟨rfl, rfl, rfl, rfl⟩⟩
theorem eq_ht (x y : Ht) (w : World) : (Op.equalIn 10000 35 (htV x) (htV y)).run Try.prog w = .ok (decide (x = y)) w := by
  obtain ⟨a, s, b, c⟩ := x
  obtain ⟨d, r, e, f⟩ := y
  have hf : Try.prog.fieldsOf 35 = #[{ name := "Kind", type := 3, offset := 0, embedded := false, tag := "", pkgPath := "", byteOffset := 0 }, { name := "Key", type := 9, offset := 1, embedded := false, tag := "", pkgPath := "", byteOffset := 8 }, { name := "At", type := 3, offset := 2, embedded := false, tag := "", pkgPath := "", byteOffset := 24 }, { name := "Size", type := 3, offset := 3, embedded := false, tag := "", pkgPath := "", byteOffset := 32 }] := by
    unfold Program.fieldsOf
    rw [Try.underlying35]
  have hu : Try.prog.underlying 35 = some (.struct (Try.prog.fieldsOf 35)) := by rw [hf]; exact Try.underlying35
  have hp : Try.prog.stoodInHeld 35 = false := by kernel_rfl
  have hi : ∀ w, (isAgg 3).run Try.prog w = .ok false w := fun w => by kernel_rfl
  have hi2 : ∀ w, (isAgg 9).run Try.prog w = .ok false w := fun w => by kernel_rfl
  have he : ∀ (x y : Int) (w : World), (Op.equalIn 9999 3 (.int .i64 x) (.int .i64 y)).run Try.prog w = .ok (x == y) w := fun x y w => run_equalIn_int w 9998 _ _ _ x y Try.underlying3
  have he2 : ∀ (x y : List UInt8) (w : World), (Op.equalIn 9999 9 (.string ⟨x.toArray⟩) (.string ⟨y.toArray⟩)).run Try.prog w = .ok (x == y) w := fun x y w => by
    have h := run_equalIn_string (P := Try.prog) w 9998 _ ⟨x.toArray⟩ ⟨y.toArray⟩ Try.underlying9
    rw [h]
    simp [ByteArray.toList_eq]
  unfold htV
  dsimp only
  rw [run_equalIn_struct w 9999 _ _ _ hu hp, hf]
  have hpa : ∀ (cs : Array Value) (i : Nat) (v : Value) (w : World), cs[i]? = some v → (part 3 cs i).run Try.prog w = .ok v w := fun cs i v w h => by
    simp [part, hi, h]
  have hpb : ∀ (cs : Array Value) (i : Nat) (v : Value) (w : World), cs[i]? = some v → (part 9 cs i).run Try.prog w = .ok v w := fun cs i v w h => by
    simp [part, hi2, h]
  have h0 := fun w => hpa #[.int .i64 a, .string ⟨s.toArray⟩, .int .i64 b, .int .i64 c] 0 (.int .i64 a) w rfl
  have h1 := fun w => hpb #[.int .i64 a, .string ⟨s.toArray⟩, .int .i64 b, .int .i64 c] 1 (.string ⟨s.toArray⟩) w rfl
  have h2 := fun w => hpa #[.int .i64 a, .string ⟨s.toArray⟩, .int .i64 b, .int .i64 c] 2 (.int .i64 b) w rfl
  have h3 := fun w => hpa #[.int .i64 a, .string ⟨s.toArray⟩, .int .i64 b, .int .i64 c] 3 (.int .i64 c) w rfl
  have g0 := fun w => hpa #[.int .i64 d, .string ⟨r.toArray⟩, .int .i64 e, .int .i64 f] 0 (.int .i64 d) w rfl
  have g1 := fun w => hpb #[.int .i64 d, .string ⟨r.toArray⟩, .int .i64 e, .int .i64 f] 1 (.string ⟨r.toArray⟩) w rfl
  have g2 := fun w => hpa #[.int .i64 d, .string ⟨r.toArray⟩, .int .i64 e, .int .i64 f] 2 (.int .i64 e) w rfl
  have g3 := fun w => hpa #[.int .i64 d, .string ⟨r.toArray⟩, .int .i64 e, .int .i64 f] 3 (.int .i64 f) w rfl
  have hd : decide ((⟨a, s, b, c⟩ : Ht) = ⟨d, r, e, f⟩) = decide (a = d ∧ s = r ∧ b = e ∧ c = f) := by
    rw [Bool.eq_iff_iff]
    simp
  rw [hd]
  by_cases e1 : a = d
  · subst e1
    by_cases e2 : s = r
    · subst e2
      by_cases e3 : b = e
      · subst e3
        by_cases e4 : c = f
        · subst e4
          simp [Op.eqFields, h0, h1, h2, h3, he, he2]
        · have b4 : (c == f) = false := by simpa using e4
          simp [Op.eqFields, h0, h1, h2, h3, g0, g1, g2, g3, he, he2, b4, e4]
      · have b3 : (b == e) = false := by simpa using e3
        simp [Op.eqFields, h0, h1, h2, g0, g1, g2, he, he2, b3, e3]
    · have b2 : (s == r) = false := by simpa using e2
      simp [Op.eqFields, h0, h1, g0, g1, he, he2, b2, e2]
  · have b1 : (a == d) = false := by simpa using e1
    simp [Op.eqFields, h0, g0, he, b1, e1]

theorem take_nextP {α : Type} (xs ys : List α) (j : Nat) (x : α) (h : xs.take j = ys.take j) (h1 : xs[j]? = some x) (h2 : ys[j]? = some x) : xs.take (j + 1) = ys.take (j + 1) := by
  rw [List.take_add_one, List.take_add_one, h, h1, h2]

set_option maxRecDepth 100000 in
set_option maxHeartbeats 4000000 in
theorem same_hints (A : Option Addr) (n c : Nat) (B : Option Addr) (m d : Nat) (ps qs : List Ht) (w : World) (ha : Hts w A n c ps) (hb : Hts w B m d qs) (hn : n ≤ 1000000000000) :
    Calls Try.prog 11 #[.slice A n c, .slice B m d] w fun e w' => e = .returned (.bool (decide (ps = qs))) ∧ Grows w w' := by
  have hlx := ha.len
  have hly := hb.len
  obtain ⟨b, hbb⟩ : ∃ b, decide (ps = qs) = b := ⟨_, rfl⟩
  rw [hbb]
  have HBB := Lib.hid hbb
  have HX := Lib.hid ha
  have HY := Lib.hid hb
  clear ha hb hbb
  by_cases hnm : n = m
  · have hq : ((n : Int) != (m : Int)) = false := by rw [bne_eq_false_iff_eq]; omega
    have HNM := Lib.hid (And.intro hnm (And.intro hlx hly))
    clear hnm hlx hly
    go_enter Try.func11, Try.ntmps11
    go_wp2_with (fail)
    go_loopw [5] (fun i wr => ∃ (j : Nat), j ≤ n ∧ i = .int .i64 (j : Int) ∧ Hid (ps.take j = qs.take j) ∧ Hid (Grows w wr)) (fun i _ => n - (intOf i).toNat)
    case atStart => exact ⟨0, by omega, rfl, Lib.hid rfl, Lib.hid (Grows.refl _)⟩
    case round =>
      obtain ⟨j, hj, rfl, HT, HG⟩ := hrel
      by_cases hlt : j < n
      · have hlt' : (j : Int) < (n : Int) := by omega
        obtain ⟨ad, xx, rfl, hx1, hb1, hcx⟩ := Hts.at HX.out hlt
        obtain ⟨bd, yy, rfl, hy1, hb2, hcy⟩ := Hts.at HY.out (show j < m by have := HNM.out.1; omega)
        have hltm : (j : Int) < (m : Int) := by have := HNM.out.1; omega
        have HC := Lib.hid (fun w' (hC : Grows wr w') => And.intro (hcx w' (Grows.trans HG.out hC)) (hcy w' (Grows.trans HG.out hC)))
        have HXY := Lib.hid (And.intro hx1 hy1)
        have heq := fun w => eq_ht xx yy w
        obtain ⟨q, hq2⟩ : ∃ q, decide (xx = yy) = q := ⟨_, rfl⟩
        rw [hq2] at heq
        have HD := Lib.hid hq2
        unfold htV at heq
        clear hx1 hy1 hb1 hb2 hq2 hcx hcy
        go_wp2_with (fail)
        refine q_region (by kernel_rfl) (by kernel_rfl) ?_
        iterate 9 (refine q_op' (v := ?_) (a' := ?_) (by rfl) ?_ ?_ ?_
                   rotate_left 2
                   · intro w' hC
                     obtain ⟨⟨z0, z1, z2, z3⟩, v0, v1, v2, v3⟩ := HC.out w' hC
                     clear hC
                     go_simp
                     try with_reducible rfl
                   · simp only [Act.put, List.setIfInBounds_toArray, List.set_cons_zero, List.set_cons_succ]
                     try rfl)
        refine wpQuiet_nil ?_
        intro w5 hC
        have HG5 := Lib.hid (Grows.trans HG.out hC)
        clear hC heq
        cases q with
        | true =>
          go_wp2_with (fail)
          go_roundw
          case rel =>
            refine ⟨j + 1, by omega, by go_num, Lib.hid ?_, HG5⟩
            have hd := of_decide_eq_true HD.out
            refine take_nextP ps qs j xx HT.out HXY.out.1 ?_
            rw [HXY.out.2, hd]
          case measure => simp [intOf]; omega
        | false =>
          have hbf : b = false := by
            rw [← HBB.out]
            refine decide_eq_false fun e => ?_
            have hd := of_decide_eq_false HD.out
            have h1 := HXY.out.1
            rw [e, HXY.out.2] at h1
            injection h1 with h1
            exact hd h1.symm
          have HBF := Lib.hid hbf
          clear hbf
          go_wp2_with (fail)
          go_ret
          rw [HBF.out]
          exact ⟨rfl, HG5.out⟩
      · obtain rfl : j = n := by omega
        have hbt : b = true := by
          rw [← HBB.out]
          refine decide_eq_true ?_
          have h := HT.out
          obtain ⟨h1, h2, h3⟩ := HNM.out
          rw [List.take_of_length_le (by omega), List.take_of_length_le (by omega)] at h
          exact h
        have HBT := Lib.hid hbt
        clear hbt
        go_wp2_with (fail)
        go_ret
        rw [HBT.out]
        exact ⟨rfl, HG.out⟩
  · have hq : ((n : Int) != (m : Int)) = true := by rw [bne_iff_ne]; omega
    have hbf : b = false := by
      rw [← HBB.out]
      refine decide_eq_false fun e => hnm ?_
      rw [← hlx, ← hly, e]
    have HBF := Lib.hid hbf
    clear hbf hnm
    go_enter Try.func11, Try.ntmps11
    go_wp2_with (fail)
    go_ret
    rw [HBF.out]
    exact ⟨rfl, Grows.refl _⟩
end Go.Proofs.Ytdjlhdeejpndcaa
