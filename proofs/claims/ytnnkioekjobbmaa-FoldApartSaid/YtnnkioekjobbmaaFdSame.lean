/-
  Are two hints, two places, two rows of places alike?
-/
import Derived.Test.YtnnkioekjobbmaaFdPl
import Derived.LoopTactic
namespace Go.Proofs.Ytnnkioekjobbmaa
open Go.RowKit
set_option linter.unusedVariables false
set_option linter.unusedSimpArgs false
attribute [local irreducible] wpF

theorem eq_htF (f : Nat) (a c d : Int) (b : List UInt8) (a' c' d' : Int) (b' : List UInt8) (w : World) : (Op.equalIn (f + 3) 33 (.agg #[.int .i64 a, .string ⟨b.toArray⟩, .int .i64 c, .int .i64 d]) (.agg #[.int .i64 a', .string ⟨b'.toArray⟩, .int .i64 c', .int .i64 d'])).run Try.prog w = .ok ((a == a') && ((b == b') && ((c == c') && (d == d')))) w := by
  have hu : Try.prog.underlying 33 = some (.struct (Try.prog.fieldsOf 33)) := by unfold Program.fieldsOf; rw [Try.underlying33]
  have hp : Try.prog.stoodInHeld 33 = false := by kernel_rfl
  have hi : ∀ w, (isAgg 3).run Try.prog w = .ok false w := fun w => by kernel_rfl
  have hs : ∀ w, (isAgg 9).run Try.prog w = .ok false w := fun w => by kernel_rfl
  have he : ∀ (x y : Int) (w : World), (Op.equalIn (f + 2) 3 (.int .i64 x) (.int .i64 y)).run Try.prog w = .ok (x == y) w := fun x y w => run_equalIn_int w (f + 1) _ _ _ x y Try.underlying3
  have hes : ∀ (x y : List UInt8) (w : World), (Op.equalIn (f + 2) 9 (.string ⟨x.toArray⟩) (.string ⟨y.toArray⟩)).run Try.prog w = .ok (x == y) w := fun x y w => by
    rw [run_equalIn_string w (f + 1) _ _ _ Try.underlying9]
    simp
  rw [run_equalIn_struct w (f + 2) _ _ _ hu hp]
  unfold Program.fieldsOf
  rw [Try.underlying33]
  have hpa : ∀ (cs : Array Value) (i : Nat) (v : Value) (w : World), cs[i]? = some v → (part 3 cs i).run Try.prog w = .ok v w := fun cs i v w h => by
    simp [part, hi, h]
  have hps : ∀ (cs : Array Value) (i : Nat) (v : Value) (w : World), cs[i]? = some v → (part 9 cs i).run Try.prog w = .ok v w := fun cs i v w h => by
    simp [part, hs, h]
  have h0 := fun w => hpa #[.int .i64 a, .string ⟨b.toArray⟩, .int .i64 c, .int .i64 d] 0 _ w rfl
  have h1 := fun w => hps #[.int .i64 a, .string ⟨b.toArray⟩, .int .i64 c, .int .i64 d] 1 _ w rfl
  have h2 := fun w => hpa #[.int .i64 a, .string ⟨b.toArray⟩, .int .i64 c, .int .i64 d] 2 _ w rfl
  have h3 := fun w => hpa #[.int .i64 a, .string ⟨b.toArray⟩, .int .i64 c, .int .i64 d] 3 _ w rfl
  have g0 := fun w => hpa #[.int .i64 a', .string ⟨b'.toArray⟩, .int .i64 c', .int .i64 d'] 0 _ w rfl
  have g1 := fun w => hps #[.int .i64 a', .string ⟨b'.toArray⟩, .int .i64 c', .int .i64 d'] 1 _ w rfl
  have g2 := fun w => hpa #[.int .i64 a', .string ⟨b'.toArray⟩, .int .i64 c', .int .i64 d'] 2 _ w rfl
  have g3 := fun w => hpa #[.int .i64 a', .string ⟨b'.toArray⟩, .int .i64 c', .int .i64 d'] 3 _ w rfl
  cases e1 : (a == a') <;> cases e2 : (b == b') <;> cases e3 : (c == c') <;> cases e4 : (d == d') <;> simp [Op.eqFields, h0, h1, h2, h3, g0, g1, g2, g3, he, hes, e1, e2, e3, e4]
theorem eq_ht (x y : Ht) (w : World) : (Op.equalIn 10000 33 (htV x) (htV y)).run Try.prog w = .ok (decide (x = y)) w := by
  obtain ⟨b, c, d, e⟩ := x
  obtain ⟨b', c', d', e'⟩ := y
  have hR : decide ((⟨b, c, d, e⟩ : Ht) = ⟨b', c', d', e'⟩) = ((b == b') && ((c == c') && ((d == d') && (e == e')))) := by
    rw [Bool.eq_iff_iff]
    simp
  rw [hR]
  exact eq_htF 9997 b d e c b' d' e' c' w
theorem eq_pl (x y : Fp) (w : World) : (Op.equalIn 10000 35 (plV x) (plV y)).run Try.prog w = .ok (decide (x = y)) w := by
  obtain ⟨a, ⟨b, c, d, e⟩⟩ := x
  obtain ⟨a', ⟨b', c', d', e'⟩⟩ := y
  have hR : decide (((a, ⟨b, c, d, e⟩) : Fp) = (a', ⟨b', c', d', e'⟩)) = ((a == a') && ((b == b') && ((c == c') && ((d == d') && (e == e'))))) := by
    rw [Bool.eq_iff_iff]
    simp
  rw [hR]
  unfold plV
  dsimp only
  have hu : Try.prog.underlying 35 = some (.struct (Try.prog.fieldsOf 35)) := by unfold Program.fieldsOf; rw [Try.underlying35]
  have hp : Try.prog.stoodInHeld 35 = false := by kernel_rfl
  have hi : ∀ w, (isAgg 3).run Try.prog w = .ok false w := fun w => by kernel_rfl
  have he : ∀ (x y : Int) (w : World), (Op.equalIn 9999 3 (.int .i64 x) (.int .i64 y)).run Try.prog w = .ok (x == y) w := fun x y w => run_equalIn_int w 9998 _ _ _ x y Try.underlying3
  have hpa : ∀ (cs : Array Value) (i : Nat) (v : Value) (w : World), cs[i]? = some v → (part 3 cs i).run Try.prog w = .ok v w := fun cs i v w h => by
    simp [part, hi, h]
  have hph : ∀ (a b d e : Int) (c : ByteArray) (w : World), (part 33 #[.int .i64 a, .int .i64 b, .string c, .int .i64 d, .int .i64 e] 1).run Try.prog w = .ok (.agg #[.int .i64 b, .string c, .int .i64 d, .int .i64 e]) w := fun a b d e c w => by kernel_rfl
  rw [run_equalIn_struct w 9999 _ _ _ hu hp]
  unfold Program.fieldsOf
  rw [Try.underlying35]
  have h0 := fun w => hpa #[.int .i64 a, .int .i64 b, .string ⟨c.toArray⟩, .int .i64 d, .int .i64 e] 0 _ w rfl
  have g0 := fun w => hpa #[.int .i64 a', .int .i64 b', .string ⟨c'.toArray⟩, .int .i64 d', .int .i64 e'] 0 _ w rfl
  have hq := fun w => eq_htF 9996 b d e c b' d' e' c' w
  obtain ⟨r, hr⟩ : ∃ r, ((b == b') && ((c == c') && ((d == d') && (e == e')))) = r := ⟨_, rfl⟩
  rw [hr] at hq ⊢
  cases e1 : (a == a') <;> cases r <;> simp [Op.eqFields, h0, g0, hph, he, hq, e1]
set_option maxRecDepth 100000 in
set_option maxHeartbeats 4000000 in
theorem same_any {A B : Option Addr} {n n2 c c2 : Nat} {l k : List Fp} (w : World) (h : Pls w A n c l) (h2 : Pls w B n2 c2 k) (hn : n < 1000000) :
    Calls Try.prog 12 #[.slice A n c, .slice B n2 c2] w fun e w' => e = .returned (.bool (decide (l = k))) ∧ Grows w w' := by
  have HX := Lib.hid (And.intro h h2)
  have HLN := Lib.hid (And.intro h.len h2.len)
  obtain ⟨r, hr⟩ : ∃ r, decide (l = k) = r := ⟨_, rfl⟩
  rw [hr]
  have HR := Lib.hid hr
  clear h h2 hr
  go_enter Try.func12, Try.ntmps12
  by_cases hne : n = n2
  · subst hne
    go_wp2_with (fail)
    go_loopw [5] (fun vi wr => ∃ (i : Nat), i ≤ n ∧ vi = .int .i64 (i : Int) ∧ Hid (l.take i = k.take i ∧ Grows w wr)) (fun vi _ => n - (intOf vi).toNat)
    case atStart => exact ⟨0, Nat.zero_le _, rfl, Lib.hid ⟨rfl, Grows.refl _⟩⟩
    case round =>
      obtain ⟨i, hi, rfl, HT⟩ := hrel
      by_cases hlt : i < n
      · obtain ⟨ad, ⟨x0, ⟨x1, x2, x3, x4⟩⟩, rfl, hx, _, hcx⟩ := HX.out.1.at hlt
        obtain ⟨bd, ⟨y0, ⟨y1, y2, y3, y4⟩⟩, rfl, hy, _, hcy⟩ := HX.out.2.at hlt
        dsimp only at hcx hcy
        have k0 : (0 : Int) ≤ (i : Int) := by omega
        have k1 : (i : Int) < (n : Int) := by omega
        have HI := Lib.hid (And.intro k0 k1)
        have HC := Lib.hid (And.intro (fun w' (hg : Grows wr w') => hcx w' (Grows.trans HT.out.2 hg)) (fun w' (hg : Grows wr w') => hcy w' (Grows.trans HT.out.2 hg)))
        have HXY := Lib.hid (And.intro hx hy)
        clear hx hy hcx hcy
        rcases hq : decide (((x0, ⟨x1, x2, x3, x4⟩) : Fp) = (y0, ⟨y1, y2, y3, y4⟩)) with _ | _
        · have HE := Lib.hid (show x0 = y0 → x1 = y1 → x2 = y2 → x3 = y3 → ¬ x4 = y4 from fun a b c d e => by
            have := of_decide_eq_false hq
            exact this (by rw [a, b, c, d, e]))
          have HF := Lib.hid (show r = false from by
            rw [← HR.out]
            refine decide_eq_false fun e => ?_
            have h1 := HXY.out.1
            rw [e, HXY.out.2] at h1
            injection h1 with h1
            rw [h1] at hq
            simp at hq)
          clear hq
          go_wp2_with (fail)
          refine wp_region_facts (E := Grows) [valFact (.slice (some ad) n c), valFact (.int .i64 (i : Int)), valFact (.pointer (some (ad.add (i * 5)))), valFact (.agg #[.int .i64 x0, .int .i64 x1, .string ⟨x2.toArray⟩, .int .i64 x3, .int .i64 x4]), valFact (.slice (some bd) n c2), valFact (.int .i64 (i : Int)), valFact (.pointer (some (bd.add (i * 5)))), valFact (.agg #[.int .i64 y0, .int .i64 y1, .string ⟨y2.toArray⟩, .int .i64 y3, .int .i64 y4]), valFact (.bool true)] (by kernel_rfl) (by kernel_rfl) (fun _ _ _ => Grows.trans) (grows_drew _) ?_
          refine f_val (.slice (some ad) n c) (by rfl) ?_ ?_
          · intro w' hC; clear hC; go_simp
          simp only [Act.put, List.setIfInBounds_toArray, List.set_cons_zero, List.set_cons_succ]
          refine f_val (.int .i64 (i : Int)) (by rfl) ?_ ?_
          · intro w' hC; clear hC; go_simp
          simp only [Act.put, List.setIfInBounds_toArray, List.set_cons_zero, List.set_cons_succ]
          refine f_val (.pointer (some (ad.add (i * 5)))) (by rfl) ?_ ?_
          · intro w' hC; have k0 := HI.out; clear hC; go_simp
          simp only [Act.put, List.setIfInBounds_toArray, List.set_cons_zero, List.set_cons_succ]
          refine f_val (.agg #[.int .i64 x0, .int .i64 x1, .string ⟨x2.toArray⟩, .int .i64 x3, .int .i64 x4]) (by rfl) ?_ ?_
          · intro w' hC; obtain ⟨z0, z1, z2, z3, z4⟩ := HC.out.1 w' hC; clear hC; go_simp
          simp only [Act.put, List.setIfInBounds_toArray, List.set_cons_zero, List.set_cons_succ]
          refine f_val (.slice (some bd) n c2) (by rfl) ?_ ?_
          · intro w' hC; clear hC; go_simp
          simp only [Act.put, List.setIfInBounds_toArray, List.set_cons_zero, List.set_cons_succ]
          refine f_val (.int .i64 (i : Int)) (by rfl) ?_ ?_
          · intro w' hC; clear hC; go_simp
          simp only [Act.put, List.setIfInBounds_toArray, List.set_cons_zero, List.set_cons_succ]
          refine f_val (.pointer (some (bd.add (i * 5)))) (by rfl) ?_ ?_
          · intro w' hC; have k0 := HI.out; clear hC; go_simp
          simp only [Act.put, List.setIfInBounds_toArray, List.set_cons_zero, List.set_cons_succ]
          refine f_val (.agg #[.int .i64 y0, .int .i64 y1, .string ⟨y2.toArray⟩, .int .i64 y3, .int .i64 y4]) (by rfl) ?_ ?_
          · intro w' hC; obtain ⟨z0, z1, z2, z3, z4⟩ := HC.out.2 w' hC; clear hC; go_simp
          simp only [Act.put, List.setIfInBounds_toArray, List.set_cons_zero, List.set_cons_succ]
          refine f_val (.bool true) (by rfl) ?_ ?_
          · intro w' hC; clear hC; go_simp; exact HE.out
          simp only [Act.put, List.setIfInBounds_toArray, List.set_cons_zero, List.set_cons_succ]
          refine wpF_end ?_
          intro w2 hC hks
          have HCw2 := Lib.hid hC
          clear hC hks
          go_wp2_with (fail)
          go_ret
          exact ⟨ret_bool HF.out.symm, Grows.trans HT.out.2 HCw2.out⟩
        · have HF := Lib.hid (show l.take (i + 1) = k.take (i + 1) from by
            have h1 := of_decide_eq_true hq
            rw [List.take_add_one, List.take_add_one, HT.out.1, HXY.out.1, HXY.out.2, h1])
          obtain ⟨rfl, rfl, rfl, rfl, rfl⟩ : x0 = y0 ∧ x1 = y1 ∧ x2 = y2 ∧ x3 = y3 ∧ x4 = y4 := by
            have h1 := of_decide_eq_true hq
            simp only [Prod.mk.injEq, Ht.mk.injEq] at h1
            exact h1
          clear hq
          go_wp2_with (fail)
          refine wp_region_facts (E := Grows) [valFact (.slice (some ad) n c), valFact (.int .i64 (i : Int)), valFact (.pointer (some (ad.add (i * 5)))), valFact (.agg #[.int .i64 x0, .int .i64 x1, .string ⟨x2.toArray⟩, .int .i64 x3, .int .i64 x4]), valFact (.slice (some bd) n c2), valFact (.int .i64 (i : Int)), valFact (.pointer (some (bd.add (i * 5)))), valFact (.agg #[.int .i64 x0, .int .i64 x1, .string ⟨x2.toArray⟩, .int .i64 x3, .int .i64 x4]), valFact (.bool false)] (by kernel_rfl) (by kernel_rfl) (fun _ _ _ => Grows.trans) (grows_drew _) ?_
          refine f_val (.slice (some ad) n c) (by rfl) ?_ ?_
          · intro w' hC; clear hC; go_simp
          simp only [Act.put, List.setIfInBounds_toArray, List.set_cons_zero, List.set_cons_succ]
          refine f_val (.int .i64 (i : Int)) (by rfl) ?_ ?_
          · intro w' hC; clear hC; go_simp
          simp only [Act.put, List.setIfInBounds_toArray, List.set_cons_zero, List.set_cons_succ]
          refine f_val (.pointer (some (ad.add (i * 5)))) (by rfl) ?_ ?_
          · intro w' hC; have k0 := HI.out; clear hC; go_simp
          simp only [Act.put, List.setIfInBounds_toArray, List.set_cons_zero, List.set_cons_succ]
          refine f_val (.agg #[.int .i64 x0, .int .i64 x1, .string ⟨x2.toArray⟩, .int .i64 x3, .int .i64 x4]) (by rfl) ?_ ?_
          · intro w' hC; obtain ⟨z0, z1, z2, z3, z4⟩ := HC.out.1 w' hC; clear hC; go_simp
          simp only [Act.put, List.setIfInBounds_toArray, List.set_cons_zero, List.set_cons_succ]
          refine f_val (.slice (some bd) n c2) (by rfl) ?_ ?_
          · intro w' hC; clear hC; go_simp
          simp only [Act.put, List.setIfInBounds_toArray, List.set_cons_zero, List.set_cons_succ]
          refine f_val (.int .i64 (i : Int)) (by rfl) ?_ ?_
          · intro w' hC; clear hC; go_simp
          simp only [Act.put, List.setIfInBounds_toArray, List.set_cons_zero, List.set_cons_succ]
          refine f_val (.pointer (some (bd.add (i * 5)))) (by rfl) ?_ ?_
          · intro w' hC; have k0 := HI.out; clear hC; go_simp
          simp only [Act.put, List.setIfInBounds_toArray, List.set_cons_zero, List.set_cons_succ]
          refine f_val (.agg #[.int .i64 x0, .int .i64 x1, .string ⟨x2.toArray⟩, .int .i64 x3, .int .i64 x4]) (by rfl) ?_ ?_
          · intro w' hC; obtain ⟨z0, z1, z2, z3, z4⟩ := HC.out.2 w' hC; clear hC; go_simp
          simp only [Act.put, List.setIfInBounds_toArray, List.set_cons_zero, List.set_cons_succ]
          refine f_val (.bool false) (by rfl) ?_ ?_
          · intro w' hC; clear hC; go_simp
          simp only [Act.put, List.setIfInBounds_toArray, List.set_cons_zero, List.set_cons_succ]
          refine wpF_end ?_
          intro w2 hC hks
          have HCw2 := Lib.hid hC
          clear hC hks
          go_wp2_with (fail)
          go_roundw
          case rel => exact ⟨i + 1, by omega, by first | rfl | go_num, Lib.hid ⟨HF.out, Grows.trans HT.out.2 HCw2.out⟩⟩
          case measure => simp [intOf]; omega
      · obtain rfl : n = i := by omega
        have HF := Lib.hid (show r = true from by
          rw [← HR.out]
          have h1 := HT.out.1
          rw [List.take_of_length_le (by have := HLN.out; omega), List.take_of_length_le (by have := HLN.out; omega)] at h1
          exact decide_eq_true h1)
        go_wp2_with (fail)
        go_ret
        exact ⟨ret_bool HF.out.symm, HT.out.2⟩
  · have HF := Lib.hid (show r = false from by
      rw [← HR.out]
      exact decide_eq_false fun e => hne (by rw [← HLN.out.1, ← HLN.out.2, e]))
    go_wp2_with (fail)
    go_ret
    exact ⟨ret_bool HF.out.symm, Grows.refl _⟩
end Go.Proofs.Ytnnkioekjobbmaa
