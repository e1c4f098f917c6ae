/-
  HintBack: hints that were put are got of their bytes, of a segment as long, and of no other one; what is got of any bytes has them.
-/
import Derived.Test.YtdjlhdeejpndcaaRows
import Derived.Test.YtdjlhdeejpndcaaChecked
import Derived.Test.YtdjlhdeejpndcaaFrame
import Derived.Test.YtdjlhdeejpndcaaSeat
import Derived.Test.YtdjlhdeejpndcaaCame
import Derived.Test.YtdjlhdeejpndcaaHtIn
import Derived.Test.YtdjlhdeejpndcaaHtHead
import Derived.Test.YtdjlhdeejpndcaaHtHead11
import Derived.Test.YtdjlhdeejpndcaaRowsIn
import Derived.ProofKit
import Derived.ChangeOld
namespace Go.Proofs.Ytdjlhdeejpndcaa
open Go.ChangeShapes Go.WideShapes Go.ChangeAt Go.RowKit
set_option linter.unusedSimpArgs false
set_option linter.unusedVariables false
attribute [local irreducible] wpF
theorem get_few {b : List UInt8} {s : Int} {l : List Ht} (h : getH b s = some l) : l.length ≤ b.length := by
  obtain ⟨h1, h2, h3⟩ := put_getH h
  have h4 := putH_length h1 h2
  rw [h3] at h4
  have : ∀ l : List Ht, l.length ≤ (l.map fun h => 15 + h.key.length).sum := by
    intro l
    induction l with
    | nil => exact Nat.le_refl _
    | cons x l ih => rw [List.map_cons, List.sum_cons, List.length_cons]; omega
  have := this l
  omega

set_option maxHeartbeats 16000000 in
set_option maxRecDepth 100000 in
theorem hintBack_law (w : World) (A0 : Option Addr) (n0 c0 : Nat) (l : List Ht) (hx : Hts w A0 n0 c0 l) (hn : n0 ≤ 4000000000000) (size : Int) (hs : -9223372036854775808 ≤ size ∧ size ≤ 9223372036854775807) (other : Int) (ho : -9223372036854775808 ≤ other ∧ other ≤ 9223372036854775807)
    (A3 : Option Addr) (n3 c3 : Nat) (xs : List UInt8) (hcb : Came w A3 n3 c3 xs) :
    Calls Try.prog 3 #[.slice A0 n0 c0, .int .i64 size, .int .i64 other, .slice A3 n3 c3] w fun e w' => e = .returned (.bool true) ∧ Below w.heap.size w w' := by
  have HX := Lib.hid hx
  have HLEN := Lib.hid hx.len
  have HSB0 := Lib.hid hcb.sl
  have HMA := Lib.hid (fun w' (hg : Grows w w') => many_any A0 n0 c0 l w' (hx.grow hg) (by omega))
  clear hx hcb
  go_enter Try.func3, Try.ntmps3
  go_wp2_with (fail)
  refine (head11_any w).mono ?_
  rintro e w1 ⟨rfl, hg1⟩
  have HG1 := Lib.hid hg1
  clear hg1
  go_wp2_with (fail)
  refine (HMA.out w1 HG1.out).mono ?_
  rintro e w2 ⟨r, rfl, hr, hg2⟩
  have HG2 := Lib.hid (And.intro (HG1.out.trans hg2) hr)
  clear hg2 hr
  cases r
  rotate_left 1
  · go_wp2_with (fail)
    go_ret
    exact ⟨rfl, HG2.out.1⟩
  by_cases h9 : n3 ≤ 9000
  rotate_left 1
  · have h9' : (n3 : Int) > 9000 := by omega
    go_wp2_with (fail)
    go_ret
    exact ⟨rfl, HG2.out.1⟩
  have h9' : ¬ (n3 : Int) > 9000 := by omega
  have hn3 := HG2.out.2 rfl
  go_wp2_with (fail)
  refine (hput_any A0 n0 c0 l size w2 (HX.out.grow HG2.out.1) (by omega) hs).mono ?_
  rintro e w3 ⟨PA, pm, pc, rfl, hpm, hpo, hg3⟩
  have HP := Lib.hid (And.intro (Sl.owned hpo) hpm)
  have HG3 := Lib.hid (HG2.out.1.trans hg3)
  clear hpo hg3
  obtain ⟨r, hr⟩ : ∃ r, rightH l = r := ⟨_, rfl⟩
  obtain ⟨o, hok⟩ : ∃ o, okS size = o := ⟨_, rfl⟩
  have HRO := Lib.hid (And.intro hr hok)
  by_cases hro : r = true ∧ o = true
  · obtain ⟨rfl, rfl⟩ := hro
    have hlp := putH_length hr hok
    have hmost := rowsH_most (rightF_all hr)
    rw [rowsH_length (rightF_all hr)] at hmost
    have hlq := HLEN.out
    have hp0 : (pm : Int) > 0 := by omega
    have hpb : pm ≤ 1000000 := by omega
    clear hlq
    have HG := Lib.hid (fun s => get_putH hr hok s)
    clear hr hok hlp hmost hpm
    clear HRO
    go_wp2_with (fail)
    refine (hget_any PA pm pc (putH l size) size w3 HP.out.1 hpb).mono ?_
    rw [HG.out size, if_pos rfl]
    rintro e w4 ⟨A4, m4, c4, rfl, hm4, ho4, hg4⟩
    have hm4' : l.length = m4 := hm4.symm
    have H4 := Lib.hid (And.intro (Rs.owned htL (l := l) hm4' (owned_from ho4 (Nat.zero_le _))) (And.intro (HP.out.1.grow hg4) (HG3.out.trans hg4)))
    have HM4 := Lib.hid hm4'
    clear ho4 hg4 hm4 hm4'
    dsimp only [Option.isSome]
    go_wp2_with (fail)
    by_cases heq : other = size
    · subst heq
      refine (hget_any PA pm pc (putH l other) other w4 H4.out.2.1 hpb).mono ?_
      rw [HG.out other, if_pos rfl]
      rintro e w5 ⟨A5, m5, c5, rfl, hx5, hy5, hg5⟩
      have hsm := same_hints A4 m4 c4 A0 n0 c0 l l w5 (H4.out.1.grow hg5) (HX.out.grow (H4.out.2.2.trans hg5)) (by have := HM4.out; have := HLEN.out; omega)
      rw [decide_eq_true (rfl : l = l)] at hsm
      have HSM := Lib.hid hsm
      have HG5 := Lib.hid (H4.out.2.2.trans hg5)
      dsimp only [Option.isSome]
      clear hg5 hsm H4 hx5 hy5
      go_wp2_with (fail)
      refine HSM.out.mono ?_
      rintro e w6 ⟨rfl, hg6⟩
      have HG6 := Lib.hid (HG5.out.trans hg6)
      clear hg6 HSM HG5
      go_wp2_with (fail)
      refine (hget_any A3 n3 c3 xs other w6 (HSB0.out.grow HG6.out) (by omega)).mono ?_
      obtain ⟨q, hq⟩ : ∃ q, getH xs other = q := ⟨_, rfl⟩
      rw [hq]
      rintro e w7 ⟨YA, ym, yc, rfl, hym, hyo, hg7⟩
      have H7 := Lib.hid (HG6.out.trans hg7)
      have HSB := Lib.hid (fun w' (hC : Grows w7 w') => HSB0.out.grow (H7.out.trans hC))
      cases q with
      | none =>
        obtain rfl : ym = 0 := hym
        dsimp only [Option.isSome]
        clear hyo hg7 hq
        go_wp2_with (fail)
        refine wp_region_facts (E := Grows) [valFact (.bool true), valFact (.bool true), valFact (.bool false), valFact (.bool true), valFact (.bool true), valFact (.slice YA 0 yc), valFact (.int .i64 0), valFact (.bool true), valFact (.bool true), valFact (.bool true), valFact undef, valFact undef, valFact undef, valFact undef, valFact undef, valFact undef, valFact undef, valFact undef, valFact undef, valFact undef, valFact (.bool true), valFact (.bool true), valFact (.bool true)] (by kernel_rfl) (by kernel_rfl) (fun _ _ _ => Grows.trans) (grows_drew _) ?_
        refine f_val (.bool true) (by rfl) ?_ ?_
        · intro w' hC; clear hC; first | (go_simp; done)
        simp only [Act.put, List.setIfInBounds_toArray, List.set_cons_zero, List.set_cons_succ]
        refine f_val (.bool true) (by rfl) ?_ ?_
        · intro w' hC; clear hC; first | (go_simp; done)
        simp only [Act.put, List.setIfInBounds_toArray, List.set_cons_zero, List.set_cons_succ]
        refine f_val (.bool false) (by rfl) ?_ ?_
        · intro w' hC; clear hC; first | (go_simp; done)
        simp only [Act.put, List.setIfInBounds_toArray, List.set_cons_zero, List.set_cons_succ]
        refine f_val (.bool true) (by rfl) ?_ ?_
        · intro w' hC; clear hC; first | (go_simp; done)
        simp only [Act.put, List.setIfInBounds_toArray, List.set_cons_zero, List.set_cons_succ]
        refine f_val (.bool true) (by rfl) ?_ ?_
        · intro w' hC; clear hC; first | (go_simp; done)
        simp only [Act.put, List.setIfInBounds_toArray, List.set_cons_zero, List.set_cons_succ]
        refine f_val (.slice YA 0 yc) (by rfl) ?_ ?_
        · intro w' hC; clear hC; first | (go_simp; done)
        simp only [Act.put, List.setIfInBounds_toArray, List.set_cons_zero, List.set_cons_succ]
        refine f_val (.int .i64 0) (by rfl) ?_ ?_
        · intro w' hC; clear hC; first | (go_simp; done)
        simp only [Act.put, List.setIfInBounds_toArray, List.set_cons_zero, List.set_cons_succ]
        refine f_val (.bool true) (by rfl) ?_ ?_
        · intro w' hC; clear hC; first | (go_simp; done)
        simp only [Act.put, List.setIfInBounds_toArray, List.set_cons_zero, List.set_cons_succ]
        refine f_val (.bool true) (by rfl) ?_ ?_
        · intro w' hC; clear hC; first | (go_simp; done)
        simp only [Act.put, List.setIfInBounds_toArray, List.set_cons_zero, List.set_cons_succ]
        refine f_val (.bool true) (by rfl) ?_ ?_
        · intro w' hC; clear hC; first | (go_simp; done)
        simp only [Act.put, List.setIfInBounds_toArray, List.set_cons_zero, List.set_cons_succ]
        refine f_skip (by rfl) ?_
        simp only [Act.put, List.setIfInBounds_toArray, List.set_cons_zero, List.set_cons_succ]
        refine f_skip (by rfl) ?_
        simp only [Act.put, List.setIfInBounds_toArray, List.set_cons_zero, List.set_cons_succ]
        refine f_skip (by rfl) ?_
        simp only [Act.put, List.setIfInBounds_toArray, List.set_cons_zero, List.set_cons_succ]
        refine f_skip (by rfl) ?_
        simp only [Act.put, List.setIfInBounds_toArray, List.set_cons_zero, List.set_cons_succ]
        refine f_skip (by rfl) ?_
        simp only [Act.put, List.setIfInBounds_toArray, List.set_cons_zero, List.set_cons_succ]
        refine f_skip (by rfl) ?_
        simp only [Act.put, List.setIfInBounds_toArray, List.set_cons_zero, List.set_cons_succ]
        refine f_skip (by rfl) ?_
        simp only [Act.put, List.setIfInBounds_toArray, List.set_cons_zero, List.set_cons_succ]
        refine f_skip (by rfl) ?_
        simp only [Act.put, List.setIfInBounds_toArray, List.set_cons_zero, List.set_cons_succ]
        refine f_skip (by rfl) ?_
        simp only [Act.put, List.setIfInBounds_toArray, List.set_cons_zero, List.set_cons_succ]
        refine f_skip (by rfl) ?_
        simp only [Act.put, List.setIfInBounds_toArray, List.set_cons_zero, List.set_cons_succ]
        refine f_val (.bool true) (by rfl) ?_ ?_
        · intro w' hC; clear hC; first | (go_simp; done)
        simp only [Act.put, List.setIfInBounds_toArray, List.set_cons_zero, List.set_cons_succ]
        refine f_val (.bool true) (by rfl) ?_ ?_
        · intro w' hC; clear hC; first | (go_simp; done)
        simp only [Act.put, List.setIfInBounds_toArray, List.set_cons_zero, List.set_cons_succ]
        refine f_val (.bool true) (by rfl) ?_ ?_
        · intro w' hC; clear hC; first | (go_simp; done)
        simp only [Act.put, List.setIfInBounds_toArray, List.set_cons_zero, List.set_cons_succ]
        refine wpF_end ?_
        intro w9 hC hks
        have HCw9 := Lib.hid hC
        clear hC hks
        go_wp2_with (fail)
        go_ret
        exact ⟨rfl, H7.out.trans HCw9.out⟩
      | some ys =>
        have hy := put_getH hq
        have HPY := Lib.hid (fun w' (hC : Grows w7 w') => (hput_any YA ym yc ys other w' (Rs.owned htL hym.symm (owned_from (owned_grow hyo hC) (Nat.zero_le _))) (by have := get_few hq; have := HSB0.out.len; have h9 : ys.length = ym := hym.symm; omega) hs).mono fun e w'' ⟨A', m', c', he, _, ho', hg'⟩ => (⟨A', m', c', he, hy.2.2 ▸ Sl.owned ho', hg'⟩ : ∃ A m c, e = Ending.returned (.slice A m c) ∧ Sl w'' A m c xs ∧ Below w'.heap.size w' w''))
        dsimp only [Option.isSome]
        clear hyo hg7 hq hy hym
        go_wp2_with (fail)
        refine wp_region_facts (E := Grows) [valFact (.bool true), valFact (.bool true), valFact (.bool true), valFact (.bool false), valFact (.bool false), valFact undef, valFact undef, valFact undef, valFact (.bool false), valFact (.bool false), valFact (.bool true), valFact (.bool true), valFact (.slice YA ym yc), valFact (.int .i64 other), slFact (xs), valFact (.string ⟨xs.toArray⟩), valFact (.slice A3 n3 c3), valFact (.string ⟨xs.toArray⟩), valFact (.bool true), valFact (.bool true), valFact (.bool true), valFact (.bool true), valFact (.bool true)] (by kernel_rfl) (by kernel_rfl) (fun _ _ _ => Grows.trans) (grows_drew _) ?_
        refine f_val (.bool true) (by rfl) ?_ ?_
        · intro w' hC; clear hC; first | (go_simp; done)
        simp only [Act.put, List.setIfInBounds_toArray, List.set_cons_zero, List.set_cons_succ]
        refine f_val (.bool true) (by rfl) ?_ ?_
        · intro w' hC; clear hC; first | (go_simp; done)
        simp only [Act.put, List.setIfInBounds_toArray, List.set_cons_zero, List.set_cons_succ]
        refine f_val (.bool true) (by rfl) ?_ ?_
        · intro w' hC; clear hC; first | (go_simp; done)
        simp only [Act.put, List.setIfInBounds_toArray, List.set_cons_zero, List.set_cons_succ]
        refine f_val (.bool false) (by rfl) ?_ ?_
        · intro w' hC; clear hC; first | (go_simp; done)
        simp only [Act.put, List.setIfInBounds_toArray, List.set_cons_zero, List.set_cons_succ]
        refine f_val (.bool false) (by rfl) ?_ ?_
        · intro w' hC; clear hC; first | (go_simp; done)
        simp only [Act.put, List.setIfInBounds_toArray, List.set_cons_zero, List.set_cons_succ]
        refine f_skip (by rfl) ?_
        simp only [Act.put, List.setIfInBounds_toArray, List.set_cons_zero, List.set_cons_succ]
        refine f_skip (by rfl) ?_
        simp only [Act.put, List.setIfInBounds_toArray, List.set_cons_zero, List.set_cons_succ]
        refine f_skip (by rfl) ?_
        simp only [Act.put, List.setIfInBounds_toArray, List.set_cons_zero, List.set_cons_succ]
        refine f_val (.bool false) (by rfl) ?_ ?_
        · intro w' hC; clear hC; first | (go_simp; done)
        simp only [Act.put, List.setIfInBounds_toArray, List.set_cons_zero, List.set_cons_succ]
        refine f_val (.bool false) (by rfl) ?_ ?_
        · intro w' hC; clear hC; first | (go_simp; done)
        simp only [Act.put, List.setIfInBounds_toArray, List.set_cons_zero, List.set_cons_succ]
        refine f_val (.bool true) (by rfl) ?_ ?_
        · intro w' hC; clear hC; first | (go_simp; done)
        simp only [Act.put, List.setIfInBounds_toArray, List.set_cons_zero, List.set_cons_succ]
        refine f_val (.bool true) (by rfl) ?_ ?_
        · intro w' hC; clear hC; first | (go_simp; done)
        simp only [Act.put, List.setIfInBounds_toArray, List.set_cons_zero, List.set_cons_succ]
        refine f_val (.slice YA ym yc) (by rfl) ?_ ?_
        · intro w' hC; clear hC; first | (go_simp; done)
        simp only [Act.put, List.setIfInBounds_toArray, List.set_cons_zero, List.set_cons_succ]
        refine f_val (.int .i64 other) (by rfl) ?_ ?_
        · intro w' hC; clear hC; first | (go_simp; done)
        simp only [Act.put, List.setIfInBounds_toArray, List.set_cons_zero, List.set_cons_succ]
        refine f_new (xs) 9 #[.slice YA ym yc, .int .i64 other] (by rfl) (by intro w' hC; clear hC; go_simp) ?_ ?_
        · intro w' hC hks; exact HPY.out w' hC
        intro PA pc
        simp only [Act.put, List.setIfInBounds_toArray, List.set_cons_zero, List.set_cons_succ]
        refine f_known (.string ⟨xs.toArray⟩) (by rfl) ?_ ?_
        · intro w' hC hks; exact run_op_string rfl rfl (Known.get hks 0 rfl (by rfl))
        simp only [Act.put, List.setIfInBounds_toArray, List.set_cons_zero, List.set_cons_succ]
        refine f_val (.slice A3 n3 c3) (by rfl) ?_ ?_
        · intro w' hC; clear hC; first | (go_simp; done)
        simp only [Act.put, List.setIfInBounds_toArray, List.set_cons_zero, List.set_cons_succ]
        refine f_known (.string ⟨xs.toArray⟩) (by rfl) ?_ ?_
        · intro w' hC hks; exact run_op_string rfl rfl (HSB.out w' hC)
        simp only [Act.put, List.setIfInBounds_toArray, List.set_cons_zero, List.set_cons_succ]
        refine f_val (.bool true) (by rfl) ?_ ?_
        · intro w' hC; clear hC; first | (go_simp; done)
        simp only [Act.put, List.setIfInBounds_toArray, List.set_cons_zero, List.set_cons_succ]
        refine f_val (.bool true) (by rfl) ?_ ?_
        · intro w' hC; clear hC; first | (go_simp; done)
        simp only [Act.put, List.setIfInBounds_toArray, List.set_cons_zero, List.set_cons_succ]
        refine f_val (.bool true) (by rfl) ?_ ?_
        · intro w' hC; clear hC; first | (go_simp; done)
        simp only [Act.put, List.setIfInBounds_toArray, List.set_cons_zero, List.set_cons_succ]
        refine f_val (.bool true) (by rfl) ?_ ?_
        · intro w' hC; clear hC; first | (go_simp; done)
        simp only [Act.put, List.setIfInBounds_toArray, List.set_cons_zero, List.set_cons_succ]
        refine f_val (.bool true) (by rfl) ?_ ?_
        · intro w' hC; clear hC; first | (go_simp; done)
        simp only [Act.put, List.setIfInBounds_toArray, List.set_cons_zero, List.set_cons_succ]
        refine wpF_end ?_
        intro w9 hC hks
        have HCw9 := Lib.hid hC
        clear hC hks
        go_wp2_with (fail)
        go_ret
        exact ⟨rfl, H7.out.trans HCw9.out⟩
    · have hos : (other == size) = false := by simpa using heq
      refine (hget_any PA pm pc (putH l size) other w4 H4.out.2.1 hpb).mono ?_
      rw [HG.out other, if_neg heq]
      clear heq
      rintro e w5 ⟨A5, m5, c5, rfl, hx5, hy5, hg5⟩
      have hsm := same_hints A4 m4 c4 A0 n0 c0 l l w5 (H4.out.1.grow hg5) (HX.out.grow (H4.out.2.2.trans hg5)) (by have := HM4.out; have := HLEN.out; omega)
      rw [decide_eq_true (rfl : l = l)] at hsm
      have HSM := Lib.hid hsm
      have HG5 := Lib.hid (H4.out.2.2.trans hg5)
      dsimp only [Option.isSome]
      clear hg5 hsm H4 hx5 hy5
      go_wp2_with (fail)
      refine HSM.out.mono ?_
      rintro e w6 ⟨rfl, hg6⟩
      have HG6 := Lib.hid (HG5.out.trans hg6)
      clear hg6 HSM HG5
      go_wp2_with (fail)
      clear hos
      refine (hget_any A3 n3 c3 xs size w6 (HSB0.out.grow HG6.out) (by omega)).mono ?_
      obtain ⟨q, hq⟩ : ∃ q, getH xs size = q := ⟨_, rfl⟩
      rw [hq]
      rintro e w7 ⟨YA, ym, yc, rfl, hym, hyo, hg7⟩
      have H7 := Lib.hid (HG6.out.trans hg7)
      have HSB := Lib.hid (fun w' (hC : Grows w7 w') => HSB0.out.grow (H7.out.trans hC))
      cases q with
      | none =>
        obtain rfl : ym = 0 := hym
        dsimp only [Option.isSome]
        clear hyo hg7 hq
        go_wp2_with (fail)
        refine wp_region_facts (E := Grows) [valFact (.bool true), valFact (.bool true), valFact (.bool false), valFact (.bool true), valFact (.bool true), valFact (.slice YA 0 yc), valFact (.int .i64 0), valFact (.bool true), valFact (.bool true), valFact (.bool true), valFact undef, valFact undef, valFact undef, valFact undef, valFact undef, valFact undef, valFact undef, valFact undef, valFact undef, valFact undef, valFact (.bool true), valFact (.bool true), valFact (.bool true)] (by kernel_rfl) (by kernel_rfl) (fun _ _ _ => Grows.trans) (grows_drew _) ?_
        refine f_val (.bool true) (by rfl) ?_ ?_
        · intro w' hC; clear hC; first | (go_simp; done)
        simp only [Act.put, List.setIfInBounds_toArray, List.set_cons_zero, List.set_cons_succ]
        refine f_val (.bool true) (by rfl) ?_ ?_
        · intro w' hC; clear hC; first | (go_simp; done)
        simp only [Act.put, List.setIfInBounds_toArray, List.set_cons_zero, List.set_cons_succ]
        refine f_val (.bool false) (by rfl) ?_ ?_
        · intro w' hC; clear hC; first | (go_simp; done)
        simp only [Act.put, List.setIfInBounds_toArray, List.set_cons_zero, List.set_cons_succ]
        refine f_val (.bool true) (by rfl) ?_ ?_
        · intro w' hC; clear hC; first | (go_simp; done)
        simp only [Act.put, List.setIfInBounds_toArray, List.set_cons_zero, List.set_cons_succ]
        refine f_val (.bool true) (by rfl) ?_ ?_
        · intro w' hC; clear hC; first | (go_simp; done)
        simp only [Act.put, List.setIfInBounds_toArray, List.set_cons_zero, List.set_cons_succ]
        refine f_val (.slice YA 0 yc) (by rfl) ?_ ?_
        · intro w' hC; clear hC; first | (go_simp; done)
        simp only [Act.put, List.setIfInBounds_toArray, List.set_cons_zero, List.set_cons_succ]
        refine f_val (.int .i64 0) (by rfl) ?_ ?_
        · intro w' hC; clear hC; first | (go_simp; done)
        simp only [Act.put, List.setIfInBounds_toArray, List.set_cons_zero, List.set_cons_succ]
        refine f_val (.bool true) (by rfl) ?_ ?_
        · intro w' hC; clear hC; first | (go_simp; done)
        simp only [Act.put, List.setIfInBounds_toArray, List.set_cons_zero, List.set_cons_succ]
        refine f_val (.bool true) (by rfl) ?_ ?_
        · intro w' hC; clear hC; first | (go_simp; done)
        simp only [Act.put, List.setIfInBounds_toArray, List.set_cons_zero, List.set_cons_succ]
        refine f_val (.bool true) (by rfl) ?_ ?_
        · intro w' hC; clear hC; first | (go_simp; done)
        simp only [Act.put, List.setIfInBounds_toArray, List.set_cons_zero, List.set_cons_succ]
        refine f_skip (by rfl) ?_
        simp only [Act.put, List.setIfInBounds_toArray, List.set_cons_zero, List.set_cons_succ]
        refine f_skip (by rfl) ?_
        simp only [Act.put, List.setIfInBounds_toArray, List.set_cons_zero, List.set_cons_succ]
        refine f_skip (by rfl) ?_
        simp only [Act.put, List.setIfInBounds_toArray, List.set_cons_zero, List.set_cons_succ]
        refine f_skip (by rfl) ?_
        simp only [Act.put, List.setIfInBounds_toArray, List.set_cons_zero, List.set_cons_succ]
        refine f_skip (by rfl) ?_
        simp only [Act.put, List.setIfInBounds_toArray, List.set_cons_zero, List.set_cons_succ]
        refine f_skip (by rfl) ?_
        simp only [Act.put, List.setIfInBounds_toArray, List.set_cons_zero, List.set_cons_succ]
        refine f_skip (by rfl) ?_
        simp only [Act.put, List.setIfInBounds_toArray, List.set_cons_zero, List.set_cons_succ]
        refine f_skip (by rfl) ?_
        simp only [Act.put, List.setIfInBounds_toArray, List.set_cons_zero, List.set_cons_succ]
        refine f_skip (by rfl) ?_
        simp only [Act.put, List.setIfInBounds_toArray, List.set_cons_zero, List.set_cons_succ]
        refine f_skip (by rfl) ?_
        simp only [Act.put, List.setIfInBounds_toArray, List.set_cons_zero, List.set_cons_succ]
        refine f_val (.bool true) (by rfl) ?_ ?_
        · intro w' hC; clear hC; first | (go_simp; done)
        simp only [Act.put, List.setIfInBounds_toArray, List.set_cons_zero, List.set_cons_succ]
        refine f_val (.bool true) (by rfl) ?_ ?_
        · intro w' hC; clear hC; first | (go_simp; done)
        simp only [Act.put, List.setIfInBounds_toArray, List.set_cons_zero, List.set_cons_succ]
        refine f_val (.bool true) (by rfl) ?_ ?_
        · intro w' hC; clear hC; first | (go_simp; done)
        simp only [Act.put, List.setIfInBounds_toArray, List.set_cons_zero, List.set_cons_succ]
        refine wpF_end ?_
        intro w9 hC hks
        have HCw9 := Lib.hid hC
        clear hC hks
        go_wp2_with (fail)
        go_ret
        exact ⟨rfl, H7.out.trans HCw9.out⟩
      | some ys =>
        have hy := put_getH hq
        have HPY := Lib.hid (fun w' (hC : Grows w7 w') => (hput_any YA ym yc ys size w' (Rs.owned htL hym.symm (owned_from (owned_grow hyo hC) (Nat.zero_le _))) (by have := get_few hq; have := HSB0.out.len; have h9 : ys.length = ym := hym.symm; omega) hs).mono fun e w'' ⟨A', m', c', he, _, ho', hg'⟩ => (⟨A', m', c', he, hy.2.2 ▸ Sl.owned ho', hg'⟩ : ∃ A m c, e = Ending.returned (.slice A m c) ∧ Sl w'' A m c xs ∧ Below w'.heap.size w' w''))
        dsimp only [Option.isSome]
        clear hyo hg7 hq hy hym
        go_wp2_with (fail)
        refine wp_region_facts (E := Grows) [valFact (.bool true), valFact (.bool true), valFact (.bool true), valFact (.bool false), valFact (.bool false), valFact undef, valFact undef, valFact undef, valFact (.bool false), valFact (.bool false), valFact (.bool true), valFact (.bool true), valFact (.slice YA ym yc), valFact (.int .i64 size), slFact (xs), valFact (.string ⟨xs.toArray⟩), valFact (.slice A3 n3 c3), valFact (.string ⟨xs.toArray⟩), valFact (.bool true), valFact (.bool true), valFact (.bool true), valFact (.bool true), valFact (.bool true)] (by kernel_rfl) (by kernel_rfl) (fun _ _ _ => Grows.trans) (grows_drew _) ?_
        refine f_val (.bool true) (by rfl) ?_ ?_
        · intro w' hC; clear hC; first | (go_simp; done)
        simp only [Act.put, List.setIfInBounds_toArray, List.set_cons_zero, List.set_cons_succ]
        refine f_val (.bool true) (by rfl) ?_ ?_
        · intro w' hC; clear hC; first | (go_simp; done)
        simp only [Act.put, List.setIfInBounds_toArray, List.set_cons_zero, List.set_cons_succ]
        refine f_val (.bool true) (by rfl) ?_ ?_
        · intro w' hC; clear hC; first | (go_simp; done)
        simp only [Act.put, List.setIfInBounds_toArray, List.set_cons_zero, List.set_cons_succ]
        refine f_val (.bool false) (by rfl) ?_ ?_
        · intro w' hC; clear hC; first | (go_simp; done)
        simp only [Act.put, List.setIfInBounds_toArray, List.set_cons_zero, List.set_cons_succ]
        refine f_val (.bool false) (by rfl) ?_ ?_
        · intro w' hC; clear hC; first | (go_simp; done)
        simp only [Act.put, List.setIfInBounds_toArray, List.set_cons_zero, List.set_cons_succ]
        refine f_skip (by rfl) ?_
        simp only [Act.put, List.setIfInBounds_toArray, List.set_cons_zero, List.set_cons_succ]
        refine f_skip (by rfl) ?_
        simp only [Act.put, List.setIfInBounds_toArray, List.set_cons_zero, List.set_cons_succ]
        refine f_skip (by rfl) ?_
        simp only [Act.put, List.setIfInBounds_toArray, List.set_cons_zero, List.set_cons_succ]
        refine f_val (.bool false) (by rfl) ?_ ?_
        · intro w' hC; clear hC; first | (go_simp; done)
        simp only [Act.put, List.setIfInBounds_toArray, List.set_cons_zero, List.set_cons_succ]
        refine f_val (.bool false) (by rfl) ?_ ?_
        · intro w' hC; clear hC; first | (go_simp; done)
        simp only [Act.put, List.setIfInBounds_toArray, List.set_cons_zero, List.set_cons_succ]
        refine f_val (.bool true) (by rfl) ?_ ?_
        · intro w' hC; clear hC; first | (go_simp; done)
        simp only [Act.put, List.setIfInBounds_toArray, List.set_cons_zero, List.set_cons_succ]
        refine f_val (.bool true) (by rfl) ?_ ?_
        · intro w' hC; clear hC; first | (go_simp; done)
        simp only [Act.put, List.setIfInBounds_toArray, List.set_cons_zero, List.set_cons_succ]
        refine f_val (.slice YA ym yc) (by rfl) ?_ ?_
        · intro w' hC; clear hC; first | (go_simp; done)
        simp only [Act.put, List.setIfInBounds_toArray, List.set_cons_zero, List.set_cons_succ]
        refine f_val (.int .i64 size) (by rfl) ?_ ?_
        · intro w' hC; clear hC; first | (go_simp; done)
        simp only [Act.put, List.setIfInBounds_toArray, List.set_cons_zero, List.set_cons_succ]
        refine f_new (xs) 9 #[.slice YA ym yc, .int .i64 size] (by rfl) (by intro w' hC; clear hC; go_simp) ?_ ?_
        · intro w' hC hks; exact HPY.out w' hC
        intro PA pc
        simp only [Act.put, List.setIfInBounds_toArray, List.set_cons_zero, List.set_cons_succ]
        refine f_known (.string ⟨xs.toArray⟩) (by rfl) ?_ ?_
        · intro w' hC hks; exact run_op_string rfl rfl (Known.get hks 0 rfl (by rfl))
        simp only [Act.put, List.setIfInBounds_toArray, List.set_cons_zero, List.set_cons_succ]
        refine f_val (.slice A3 n3 c3) (by rfl) ?_ ?_
        · intro w' hC; clear hC; first | (go_simp; done)
        simp only [Act.put, List.setIfInBounds_toArray, List.set_cons_zero, List.set_cons_succ]
        refine f_known (.string ⟨xs.toArray⟩) (by rfl) ?_ ?_
        · intro w' hC hks; exact run_op_string rfl rfl (HSB.out w' hC)
        simp only [Act.put, List.setIfInBounds_toArray, List.set_cons_zero, List.set_cons_succ]
        refine f_val (.bool true) (by rfl) ?_ ?_
        · intro w' hC; clear hC; first | (go_simp; done)
        simp only [Act.put, List.setIfInBounds_toArray, List.set_cons_zero, List.set_cons_succ]
        refine f_val (.bool true) (by rfl) ?_ ?_
        · intro w' hC; clear hC; first | (go_simp; done)
        simp only [Act.put, List.setIfInBounds_toArray, List.set_cons_zero, List.set_cons_succ]
        refine f_val (.bool true) (by rfl) ?_ ?_
        · intro w' hC; clear hC; first | (go_simp; done)
        simp only [Act.put, List.setIfInBounds_toArray, List.set_cons_zero, List.set_cons_succ]
        refine f_val (.bool true) (by rfl) ?_ ?_
        · intro w' hC; clear hC; first | (go_simp; done)
        simp only [Act.put, List.setIfInBounds_toArray, List.set_cons_zero, List.set_cons_succ]
        refine f_val (.bool true) (by rfl) ?_ ?_
        · intro w' hC; clear hC; first | (go_simp; done)
        simp only [Act.put, List.setIfInBounds_toArray, List.set_cons_zero, List.set_cons_succ]
        refine wpF_end ?_
        intro w9 hC hks
        have HCw9 := Lib.hid hC
        clear hC hks
        go_wp2_with (fail)
        go_ret
        exact ⟨rfl, H7.out.trans HCw9.out⟩
  · have hill : rightH l = false ∨ okS size = false := by
      rw [hr, hok]
      cases r
      · exact .inl rfl
      · cases o
        · exact .inr rfl
        · exact absurd ⟨rfl, rfl⟩ hro
    have hpm0 : pm = 0 := by rw [hpm, putH_ill hill]; rfl
    subst hpm0
    have HRI := Lib.hid (by have h1 := hright_any A0 n0 c0 l w3 (HX.out.grow HG3.out) (by omega); rw [hr] at h1; exact h1)
    have HRR := Lib.hid (And.intro hok hro)
    clear hpm hill hr hok hro
    go_wp2_with (fail)
    refine HRI.out.mono ?_
    rintro e w4 ⟨rfl, hg4⟩
    have HG6 := Lib.hid (HG3.out.trans hg4)
    clear hg4 HRI
    cases r
    · clear HRR
      go_wp2_with (fail)
      refine (hget_any A3 n3 c3 xs size w4 (HSB0.out.grow HG6.out) (by omega)).mono ?_
      obtain ⟨q, hq⟩ : ∃ q, getH xs size = q := ⟨_, rfl⟩
      rw [hq]
      rintro e w7 ⟨YA, ym, yc, rfl, hym, hyo, hg7⟩
      have H7 := Lib.hid (HG6.out.trans hg7)
      have HSB := Lib.hid (fun w' (hC : Grows w7 w') => HSB0.out.grow (H7.out.trans hC))
      cases q with
      | none =>
        obtain rfl : ym = 0 := hym
        dsimp only [Option.isSome]
        clear hyo hg7 hq
        go_wp2_with (fail)
        refine wp_region_facts (E := Grows) [valFact (.bool true), valFact (.bool true), valFact (.bool false), valFact (.bool true), valFact (.bool true), valFact (.slice YA 0 yc), valFact (.int .i64 0), valFact (.bool true), valFact (.bool true), valFact (.bool true), valFact undef, valFact undef, valFact undef, valFact undef, valFact undef, valFact undef, valFact undef, valFact undef, valFact undef, valFact undef, valFact (.bool true), valFact (.bool true), valFact (.bool true)] (by kernel_rfl) (by kernel_rfl) (fun _ _ _ => Grows.trans) (grows_drew _) ?_
        refine f_val (.bool true) (by rfl) ?_ ?_
        · intro w' hC; clear hC; first | (go_simp; done)
        simp only [Act.put, List.setIfInBounds_toArray, List.set_cons_zero, List.set_cons_succ]
        refine f_val (.bool true) (by rfl) ?_ ?_
        · intro w' hC; clear hC; first | (go_simp; done)
        simp only [Act.put, List.setIfInBounds_toArray, List.set_cons_zero, List.set_cons_succ]
        refine f_val (.bool false) (by rfl) ?_ ?_
        · intro w' hC; clear hC; first | (go_simp; done)
        simp only [Act.put, List.setIfInBounds_toArray, List.set_cons_zero, List.set_cons_succ]
        refine f_val (.bool true) (by rfl) ?_ ?_
        · intro w' hC; clear hC; first | (go_simp; done)
        simp only [Act.put, List.setIfInBounds_toArray, List.set_cons_zero, List.set_cons_succ]
        refine f_val (.bool true) (by rfl) ?_ ?_
        · intro w' hC; clear hC; first | (go_simp; done)
        simp only [Act.put, List.setIfInBounds_toArray, List.set_cons_zero, List.set_cons_succ]
        refine f_val (.slice YA 0 yc) (by rfl) ?_ ?_
        · intro w' hC; clear hC; first | (go_simp; done)
        simp only [Act.put, List.setIfInBounds_toArray, List.set_cons_zero, List.set_cons_succ]
        refine f_val (.int .i64 0) (by rfl) ?_ ?_
        · intro w' hC; clear hC; first | (go_simp; done)
        simp only [Act.put, List.setIfInBounds_toArray, List.set_cons_zero, List.set_cons_succ]
        refine f_val (.bool true) (by rfl) ?_ ?_
        · intro w' hC; clear hC; first | (go_simp; done)
        simp only [Act.put, List.setIfInBounds_toArray, List.set_cons_zero, List.set_cons_succ]
        refine f_val (.bool true) (by rfl) ?_ ?_
        · intro w' hC; clear hC; first | (go_simp; done)
        simp only [Act.put, List.setIfInBounds_toArray, List.set_cons_zero, List.set_cons_succ]
        refine f_val (.bool true) (by rfl) ?_ ?_
        · intro w' hC; clear hC; first | (go_simp; done)
        simp only [Act.put, List.setIfInBounds_toArray, List.set_cons_zero, List.set_cons_succ]
        refine f_skip (by rfl) ?_
        simp only [Act.put, List.setIfInBounds_toArray, List.set_cons_zero, List.set_cons_succ]
        refine f_skip (by rfl) ?_
        simp only [Act.put, List.setIfInBounds_toArray, List.set_cons_zero, List.set_cons_succ]
        refine f_skip (by rfl) ?_
        simp only [Act.put, List.setIfInBounds_toArray, List.set_cons_zero, List.set_cons_succ]
        refine f_skip (by rfl) ?_
        simp only [Act.put, List.setIfInBounds_toArray, List.set_cons_zero, List.set_cons_succ]
        refine f_skip (by rfl) ?_
        simp only [Act.put, List.setIfInBounds_toArray, List.set_cons_zero, List.set_cons_succ]
        refine f_skip (by rfl) ?_
        simp only [Act.put, List.setIfInBounds_toArray, List.set_cons_zero, List.set_cons_succ]
        refine f_skip (by rfl) ?_
        simp only [Act.put, List.setIfInBounds_toArray, List.set_cons_zero, List.set_cons_succ]
        refine f_skip (by rfl) ?_
        simp only [Act.put, List.setIfInBounds_toArray, List.set_cons_zero, List.set_cons_succ]
        refine f_skip (by rfl) ?_
        simp only [Act.put, List.setIfInBounds_toArray, List.set_cons_zero, List.set_cons_succ]
        refine f_skip (by rfl) ?_
        simp only [Act.put, List.setIfInBounds_toArray, List.set_cons_zero, List.set_cons_succ]
        refine f_val (.bool true) (by rfl) ?_ ?_
        · intro w' hC; clear hC; first | (go_simp; done)
        simp only [Act.put, List.setIfInBounds_toArray, List.set_cons_zero, List.set_cons_succ]
        refine f_val (.bool true) (by rfl) ?_ ?_
        · intro w' hC; clear hC; first | (go_simp; done)
        simp only [Act.put, List.setIfInBounds_toArray, List.set_cons_zero, List.set_cons_succ]
        refine f_val (.bool true) (by rfl) ?_ ?_
        · intro w' hC; clear hC; first | (go_simp; done)
        simp only [Act.put, List.setIfInBounds_toArray, List.set_cons_zero, List.set_cons_succ]
        refine wpF_end ?_
        intro w9 hC hks
        have HCw9 := Lib.hid hC
        clear hC hks
        go_wp2_with (fail)
        go_ret
        exact ⟨rfl, H7.out.trans HCw9.out⟩
      | some ys =>
        have hy := put_getH hq
        have HPY := Lib.hid (fun w' (hC : Grows w7 w') => (hput_any YA ym yc ys size w' (Rs.owned htL hym.symm (owned_from (owned_grow hyo hC) (Nat.zero_le _))) (by have := get_few hq; have := HSB0.out.len; have h9 : ys.length = ym := hym.symm; omega) hs).mono fun e w'' ⟨A', m', c', he, _, ho', hg'⟩ => (⟨A', m', c', he, hy.2.2 ▸ Sl.owned ho', hg'⟩ : ∃ A m c, e = Ending.returned (.slice A m c) ∧ Sl w'' A m c xs ∧ Below w'.heap.size w' w''))
        dsimp only [Option.isSome]
        clear hyo hg7 hq hy hym
        go_wp2_with (fail)
        refine wp_region_facts (E := Grows) [valFact (.bool true), valFact (.bool true), valFact (.bool true), valFact (.bool false), valFact (.bool false), valFact undef, valFact undef, valFact undef, valFact (.bool false), valFact (.bool false), valFact (.bool true), valFact (.bool true), valFact (.slice YA ym yc), valFact (.int .i64 size), slFact (xs), valFact (.string ⟨xs.toArray⟩), valFact (.slice A3 n3 c3), valFact (.string ⟨xs.toArray⟩), valFact (.bool true), valFact (.bool true), valFact (.bool true), valFact (.bool true), valFact (.bool true)] (by kernel_rfl) (by kernel_rfl) (fun _ _ _ => Grows.trans) (grows_drew _) ?_
        refine f_val (.bool true) (by rfl) ?_ ?_
        · intro w' hC; clear hC; first | (go_simp; done)
        simp only [Act.put, List.setIfInBounds_toArray, List.set_cons_zero, List.set_cons_succ]
        refine f_val (.bool true) (by rfl) ?_ ?_
        · intro w' hC; clear hC; first | (go_simp; done)
        simp only [Act.put, List.setIfInBounds_toArray, List.set_cons_zero, List.set_cons_succ]
        refine f_val (.bool true) (by rfl) ?_ ?_
        · intro w' hC; clear hC; first | (go_simp; done)
        simp only [Act.put, List.setIfInBounds_toArray, List.set_cons_zero, List.set_cons_succ]
        refine f_val (.bool false) (by rfl) ?_ ?_
        · intro w' hC; clear hC; first | (go_simp; done)
        simp only [Act.put, List.setIfInBounds_toArray, List.set_cons_zero, List.set_cons_succ]
        refine f_val (.bool false) (by rfl) ?_ ?_
        · intro w' hC; clear hC; first | (go_simp; done)
        simp only [Act.put, List.setIfInBounds_toArray, List.set_cons_zero, List.set_cons_succ]
        refine f_skip (by rfl) ?_
        simp only [Act.put, List.setIfInBounds_toArray, List.set_cons_zero, List.set_cons_succ]
        refine f_skip (by rfl) ?_
        simp only [Act.put, List.setIfInBounds_toArray, List.set_cons_zero, List.set_cons_succ]
        refine f_skip (by rfl) ?_
        simp only [Act.put, List.setIfInBounds_toArray, List.set_cons_zero, List.set_cons_succ]
        refine f_val (.bool false) (by rfl) ?_ ?_
        · intro w' hC; clear hC; first | (go_simp; done)
        simp only [Act.put, List.setIfInBounds_toArray, List.set_cons_zero, List.set_cons_succ]
        refine f_val (.bool false) (by rfl) ?_ ?_
        · intro w' hC; clear hC; first | (go_simp; done)
        simp only [Act.put, List.setIfInBounds_toArray, List.set_cons_zero, List.set_cons_succ]
        refine f_val (.bool true) (by rfl) ?_ ?_
        · intro w' hC; clear hC; first | (go_simp; done)
        simp only [Act.put, List.setIfInBounds_toArray, List.set_cons_zero, List.set_cons_succ]
        refine f_val (.bool true) (by rfl) ?_ ?_
        · intro w' hC; clear hC; first | (go_simp; done)
        simp only [Act.put, List.setIfInBounds_toArray, List.set_cons_zero, List.set_cons_succ]
        refine f_val (.slice YA ym yc) (by rfl) ?_ ?_
        · intro w' hC; clear hC; first | (go_simp; done)
        simp only [Act.put, List.setIfInBounds_toArray, List.set_cons_zero, List.set_cons_succ]
        refine f_val (.int .i64 size) (by rfl) ?_ ?_
        · intro w' hC; clear hC; first | (go_simp; done)
        simp only [Act.put, List.setIfInBounds_toArray, List.set_cons_zero, List.set_cons_succ]
        refine f_new (xs) 9 #[.slice YA ym yc, .int .i64 size] (by rfl) (by intro w' hC; clear hC; go_simp) ?_ ?_
        · intro w' hC hks; exact HPY.out w' hC
        intro PA pc
        simp only [Act.put, List.setIfInBounds_toArray, List.set_cons_zero, List.set_cons_succ]
        refine f_known (.string ⟨xs.toArray⟩) (by rfl) ?_ ?_
        · intro w' hC hks; exact run_op_string rfl rfl (Known.get hks 0 rfl (by rfl))
        simp only [Act.put, List.setIfInBounds_toArray, List.set_cons_zero, List.set_cons_succ]
        refine f_val (.slice A3 n3 c3) (by rfl) ?_ ?_
        · intro w' hC; clear hC; first | (go_simp; done)
        simp only [Act.put, List.setIfInBounds_toArray, List.set_cons_zero, List.set_cons_succ]
        refine f_known (.string ⟨xs.toArray⟩) (by rfl) ?_ ?_
        · intro w' hC hks; exact run_op_string rfl rfl (HSB.out w' hC)
        simp only [Act.put, List.setIfInBounds_toArray, List.set_cons_zero, List.set_cons_succ]
        refine f_val (.bool true) (by rfl) ?_ ?_
        · intro w' hC; clear hC; first | (go_simp; done)
        simp only [Act.put, List.setIfInBounds_toArray, List.set_cons_zero, List.set_cons_succ]
        refine f_val (.bool true) (by rfl) ?_ ?_
        · intro w' hC; clear hC; first | (go_simp; done)
        simp only [Act.put, List.setIfInBounds_toArray, List.set_cons_zero, List.set_cons_succ]
        refine f_val (.bool true) (by rfl) ?_ ?_
        · intro w' hC; clear hC; first | (go_simp; done)
        simp only [Act.put, List.setIfInBounds_toArray, List.set_cons_zero, List.set_cons_succ]
        refine f_val (.bool true) (by rfl) ?_ ?_
        · intro w' hC; clear hC; first | (go_simp; done)
        simp only [Act.put, List.setIfInBounds_toArray, List.set_cons_zero, List.set_cons_succ]
        refine f_val (.bool true) (by rfl) ?_ ?_
        · intro w' hC; clear hC; first | (go_simp; done)
        simp only [Act.put, List.setIfInBounds_toArray, List.set_cons_zero, List.set_cons_succ]
        refine wpF_end ?_
        intro w9 hC hks
        have HCw9 := Lib.hid hC
        clear hC hks
        go_wp2_with (fail)
        go_ret
        exact ⟨rfl, H7.out.trans HCw9.out⟩
    · have ho : o = false := by
        cases o
        · rfl
        · exact absurd ⟨rfl, rfl⟩ HRR.out.2
      have hok : okS size = false := by rw [← ho]; exact HRR.out.1
      clear HRR
      by_cases hz : 0 ≤ size
      · have hz2 : ¬ size ≤ 1073741824 := fun h => by
          simp [okS, hz, h] at hok
        clear hok ho
        go_wp2_with (fail)
        refine (hget_any A3 n3 c3 xs size w4 (HSB0.out.grow HG6.out) (by omega)).mono ?_
        obtain ⟨q, hq⟩ : ∃ q, getH xs size = q := ⟨_, rfl⟩
        rw [hq]
        rintro e w7 ⟨YA, ym, yc, rfl, hym, hyo, hg7⟩
        have H7 := Lib.hid (HG6.out.trans hg7)
        have HSB := Lib.hid (fun w' (hC : Grows w7 w') => HSB0.out.grow (H7.out.trans hC))
        cases q with
        | none =>
          obtain rfl : ym = 0 := hym
          dsimp only [Option.isSome]
          clear hyo hg7 hq
          go_wp2_with (fail)
          refine wp_region_facts (E := Grows) [valFact (.bool true), valFact (.bool true), valFact (.bool false), valFact (.bool true), valFact (.bool true), valFact (.slice YA 0 yc), valFact (.int .i64 0), valFact (.bool true), valFact (.bool true), valFact (.bool true), valFact undef, valFact undef, valFact undef, valFact undef, valFact undef, valFact undef, valFact undef, valFact undef, valFact undef, valFact undef, valFact (.bool true), valFact (.bool true), valFact (.bool true)] (by kernel_rfl) (by kernel_rfl) (fun _ _ _ => Grows.trans) (grows_drew _) ?_
          refine f_val (.bool true) (by rfl) ?_ ?_
          · intro w' hC; clear hC; first | (go_simp; done)
          simp only [Act.put, List.setIfInBounds_toArray, List.set_cons_zero, List.set_cons_succ]
          refine f_val (.bool true) (by rfl) ?_ ?_
          · intro w' hC; clear hC; first | (go_simp; done)
          simp only [Act.put, List.setIfInBounds_toArray, List.set_cons_zero, List.set_cons_succ]
          refine f_val (.bool false) (by rfl) ?_ ?_
          · intro w' hC; clear hC; first | (go_simp; done)
          simp only [Act.put, List.setIfInBounds_toArray, List.set_cons_zero, List.set_cons_succ]
          refine f_val (.bool true) (by rfl) ?_ ?_
          · intro w' hC; clear hC; first | (go_simp; done)
          simp only [Act.put, List.setIfInBounds_toArray, List.set_cons_zero, List.set_cons_succ]
          refine f_val (.bool true) (by rfl) ?_ ?_
          · intro w' hC; clear hC; first | (go_simp; done)
          simp only [Act.put, List.setIfInBounds_toArray, List.set_cons_zero, List.set_cons_succ]
          refine f_val (.slice YA 0 yc) (by rfl) ?_ ?_
          · intro w' hC; clear hC; first | (go_simp; done)
          simp only [Act.put, List.setIfInBounds_toArray, List.set_cons_zero, List.set_cons_succ]
          refine f_val (.int .i64 0) (by rfl) ?_ ?_
          · intro w' hC; clear hC; first | (go_simp; done)
          simp only [Act.put, List.setIfInBounds_toArray, List.set_cons_zero, List.set_cons_succ]
          refine f_val (.bool true) (by rfl) ?_ ?_
          · intro w' hC; clear hC; first | (go_simp; done)
          simp only [Act.put, List.setIfInBounds_toArray, List.set_cons_zero, List.set_cons_succ]
          refine f_val (.bool true) (by rfl) ?_ ?_
          · intro w' hC; clear hC; first | (go_simp; done)
          simp only [Act.put, List.setIfInBounds_toArray, List.set_cons_zero, List.set_cons_succ]
          refine f_val (.bool true) (by rfl) ?_ ?_
          · intro w' hC; clear hC; first | (go_simp; done)
          simp only [Act.put, List.setIfInBounds_toArray, List.set_cons_zero, List.set_cons_succ]
          refine f_skip (by rfl) ?_
          simp only [Act.put, List.setIfInBounds_toArray, List.set_cons_zero, List.set_cons_succ]
          refine f_skip (by rfl) ?_
          simp only [Act.put, List.setIfInBounds_toArray, List.set_cons_zero, List.set_cons_succ]
          refine f_skip (by rfl) ?_
          simp only [Act.put, List.setIfInBounds_toArray, List.set_cons_zero, List.set_cons_succ]
          refine f_skip (by rfl) ?_
          simp only [Act.put, List.setIfInBounds_toArray, List.set_cons_zero, List.set_cons_succ]
          refine f_skip (by rfl) ?_
          simp only [Act.put, List.setIfInBounds_toArray, List.set_cons_zero, List.set_cons_succ]
          refine f_skip (by rfl) ?_
          simp only [Act.put, List.setIfInBounds_toArray, List.set_cons_zero, List.set_cons_succ]
          refine f_skip (by rfl) ?_
          simp only [Act.put, List.setIfInBounds_toArray, List.set_cons_zero, List.set_cons_succ]
          refine f_skip (by rfl) ?_
          simp only [Act.put, List.setIfInBounds_toArray, List.set_cons_zero, List.set_cons_succ]
          refine f_skip (by rfl) ?_
          simp only [Act.put, List.setIfInBounds_toArray, List.set_cons_zero, List.set_cons_succ]
          refine f_skip (by rfl) ?_
          simp only [Act.put, List.setIfInBounds_toArray, List.set_cons_zero, List.set_cons_succ]
          refine f_val (.bool true) (by rfl) ?_ ?_
          · intro w' hC; clear hC; first | (go_simp; done)
          simp only [Act.put, List.setIfInBounds_toArray, List.set_cons_zero, List.set_cons_succ]
          refine f_val (.bool true) (by rfl) ?_ ?_
          · intro w' hC; clear hC; first | (go_simp; done)
          simp only [Act.put, List.setIfInBounds_toArray, List.set_cons_zero, List.set_cons_succ]
          refine f_val (.bool true) (by rfl) ?_ ?_
          · intro w' hC; clear hC; first | (go_simp; done)
          simp only [Act.put, List.setIfInBounds_toArray, List.set_cons_zero, List.set_cons_succ]
          refine wpF_end ?_
          intro w9 hC hks
          have HCw9 := Lib.hid hC
          clear hC hks
          go_wp2_with (fail)
          go_ret
          exact ⟨rfl, H7.out.trans HCw9.out⟩
        | some ys =>
          have hy := put_getH hq
          have HPY := Lib.hid (fun w' (hC : Grows w7 w') => (hput_any YA ym yc ys size w' (Rs.owned htL hym.symm (owned_from (owned_grow hyo hC) (Nat.zero_le _))) (by have := get_few hq; have := HSB0.out.len; have h9 : ys.length = ym := hym.symm; omega) hs).mono fun e w'' ⟨A', m', c', he, _, ho', hg'⟩ => (⟨A', m', c', he, hy.2.2 ▸ Sl.owned ho', hg'⟩ : ∃ A m c, e = Ending.returned (.slice A m c) ∧ Sl w'' A m c xs ∧ Below w'.heap.size w' w''))
          dsimp only [Option.isSome]
          clear hyo hg7 hq hy hym
          go_wp2_with (fail)
          refine wp_region_facts (E := Grows) [valFact (.bool true), valFact (.bool true), valFact (.bool true), valFact (.bool false), valFact (.bool false), valFact undef, valFact undef, valFact undef, valFact (.bool false), valFact (.bool false), valFact (.bool true), valFact (.bool true), valFact (.slice YA ym yc), valFact (.int .i64 size), slFact (xs), valFact (.string ⟨xs.toArray⟩), valFact (.slice A3 n3 c3), valFact (.string ⟨xs.toArray⟩), valFact (.bool true), valFact (.bool true), valFact (.bool true), valFact (.bool true), valFact (.bool true)] (by kernel_rfl) (by kernel_rfl) (fun _ _ _ => Grows.trans) (grows_drew _) ?_
          refine f_val (.bool true) (by rfl) ?_ ?_
          · intro w' hC; clear hC; first | (go_simp; done)
          simp only [Act.put, List.setIfInBounds_toArray, List.set_cons_zero, List.set_cons_succ]
          refine f_val (.bool true) (by rfl) ?_ ?_
          · intro w' hC; clear hC; first | (go_simp; done)
          simp only [Act.put, List.setIfInBounds_toArray, List.set_cons_zero, List.set_cons_succ]
          refine f_val (.bool true) (by rfl) ?_ ?_
          · intro w' hC; clear hC; first | (go_simp; done)
          simp only [Act.put, List.setIfInBounds_toArray, List.set_cons_zero, List.set_cons_succ]
          refine f_val (.bool false) (by rfl) ?_ ?_
          · intro w' hC; clear hC; first | (go_simp; done)
          simp only [Act.put, List.setIfInBounds_toArray, List.set_cons_zero, List.set_cons_succ]
          refine f_val (.bool false) (by rfl) ?_ ?_
          · intro w' hC; clear hC; first | (go_simp; done)
          simp only [Act.put, List.setIfInBounds_toArray, List.set_cons_zero, List.set_cons_succ]
          refine f_skip (by rfl) ?_
          simp only [Act.put, List.setIfInBounds_toArray, List.set_cons_zero, List.set_cons_succ]
          refine f_skip (by rfl) ?_
          simp only [Act.put, List.setIfInBounds_toArray, List.set_cons_zero, List.set_cons_succ]
          refine f_skip (by rfl) ?_
          simp only [Act.put, List.setIfInBounds_toArray, List.set_cons_zero, List.set_cons_succ]
          refine f_val (.bool false) (by rfl) ?_ ?_
          · intro w' hC; clear hC; first | (go_simp; done)
          simp only [Act.put, List.setIfInBounds_toArray, List.set_cons_zero, List.set_cons_succ]
          refine f_val (.bool false) (by rfl) ?_ ?_
          · intro w' hC; clear hC; first | (go_simp; done)
          simp only [Act.put, List.setIfInBounds_toArray, List.set_cons_zero, List.set_cons_succ]
          refine f_val (.bool true) (by rfl) ?_ ?_
          · intro w' hC; clear hC; first | (go_simp; done)
          simp only [Act.put, List.setIfInBounds_toArray, List.set_cons_zero, List.set_cons_succ]
          refine f_val (.bool true) (by rfl) ?_ ?_
          · intro w' hC; clear hC; first | (go_simp; done)
          simp only [Act.put, List.setIfInBounds_toArray, List.set_cons_zero, List.set_cons_succ]
          refine f_val (.slice YA ym yc) (by rfl) ?_ ?_
          · intro w' hC; clear hC; first | (go_simp; done)
          simp only [Act.put, List.setIfInBounds_toArray, List.set_cons_zero, List.set_cons_succ]
          refine f_val (.int .i64 size) (by rfl) ?_ ?_
          · intro w' hC; clear hC; first | (go_simp; done)
          simp only [Act.put, List.setIfInBounds_toArray, List.set_cons_zero, List.set_cons_succ]
          refine f_new (xs) 9 #[.slice YA ym yc, .int .i64 size] (by rfl) (by intro w' hC; clear hC; go_simp) ?_ ?_
          · intro w' hC hks; exact HPY.out w' hC
          intro PA pc
          simp only [Act.put, List.setIfInBounds_toArray, List.set_cons_zero, List.set_cons_succ]
          refine f_known (.string ⟨xs.toArray⟩) (by rfl) ?_ ?_
          · intro w' hC hks; exact run_op_string rfl rfl (Known.get hks 0 rfl (by rfl))
          simp only [Act.put, List.setIfInBounds_toArray, List.set_cons_zero, List.set_cons_succ]
          refine f_val (.slice A3 n3 c3) (by rfl) ?_ ?_
          · intro w' hC; clear hC; first | (go_simp; done)
          simp only [Act.put, List.setIfInBounds_toArray, List.set_cons_zero, List.set_cons_succ]
          refine f_known (.string ⟨xs.toArray⟩) (by rfl) ?_ ?_
          · intro w' hC hks; exact run_op_string rfl rfl (HSB.out w' hC)
          simp only [Act.put, List.setIfInBounds_toArray, List.set_cons_zero, List.set_cons_succ]
          refine f_val (.bool true) (by rfl) ?_ ?_
          · intro w' hC; clear hC; first | (go_simp; done)
          simp only [Act.put, List.setIfInBounds_toArray, List.set_cons_zero, List.set_cons_succ]
          refine f_val (.bool true) (by rfl) ?_ ?_
          · intro w' hC; clear hC; first | (go_simp; done)
          simp only [Act.put, List.setIfInBounds_toArray, List.set_cons_zero, List.set_cons_succ]
          refine f_val (.bool true) (by rfl) ?_ ?_
          · intro w' hC; clear hC; first | (go_simp; done)
          simp only [Act.put, List.setIfInBounds_toArray, List.set_cons_zero, List.set_cons_succ]
          refine f_val (.bool true) (by rfl) ?_ ?_
          · intro w' hC; clear hC; first | (go_simp; done)
          simp only [Act.put, List.setIfInBounds_toArray, List.set_cons_zero, List.set_cons_succ]
          refine f_val (.bool true) (by rfl) ?_ ?_
          · intro w' hC; clear hC; first | (go_simp; done)
          simp only [Act.put, List.setIfInBounds_toArray, List.set_cons_zero, List.set_cons_succ]
          refine wpF_end ?_
          intro w9 hC hks
          have HCw9 := Lib.hid hC
          clear hC hks
          go_wp2_with (fail)
          go_ret
          exact ⟨rfl, H7.out.trans HCw9.out⟩
      · clear hok ho
        go_wp2_with (fail)
        refine (hget_any A3 n3 c3 xs size w4 (HSB0.out.grow HG6.out) (by omega)).mono ?_
        obtain ⟨q, hq⟩ : ∃ q, getH xs size = q := ⟨_, rfl⟩
        rw [hq]
        rintro e w7 ⟨YA, ym, yc, rfl, hym, hyo, hg7⟩
        have H7 := Lib.hid (HG6.out.trans hg7)
        have HSB := Lib.hid (fun w' (hC : Grows w7 w') => HSB0.out.grow (H7.out.trans hC))
        cases q with
        | none =>
          obtain rfl : ym = 0 := hym
          dsimp only [Option.isSome]
          clear hyo hg7 hq
          go_wp2_with (fail)
          refine wp_region_facts (E := Grows) [valFact (.bool true), valFact (.bool true), valFact (.bool false), valFact (.bool true), valFact (.bool true), valFact (.slice YA 0 yc), valFact (.int .i64 0), valFact (.bool true), valFact (.bool true), valFact (.bool true), valFact undef, valFact undef, valFact undef, valFact undef, valFact undef, valFact undef, valFact undef, valFact undef, valFact undef, valFact undef, valFact (.bool true), valFact (.bool true), valFact (.bool true)] (by kernel_rfl) (by kernel_rfl) (fun _ _ _ => Grows.trans) (grows_drew _) ?_
          refine f_val (.bool true) (by rfl) ?_ ?_
          · intro w' hC; clear hC; first | (go_simp; done)
          simp only [Act.put, List.setIfInBounds_toArray, List.set_cons_zero, List.set_cons_succ]
          refine f_val (.bool true) (by rfl) ?_ ?_
          · intro w' hC; clear hC; first | (go_simp; done)
          simp only [Act.put, List.setIfInBounds_toArray, List.set_cons_zero, List.set_cons_succ]
          refine f_val (.bool false) (by rfl) ?_ ?_
          · intro w' hC; clear hC; first | (go_simp; done)
          simp only [Act.put, List.setIfInBounds_toArray, List.set_cons_zero, List.set_cons_succ]
          refine f_val (.bool true) (by rfl) ?_ ?_
          · intro w' hC; clear hC; first | (go_simp; done)
          simp only [Act.put, List.setIfInBounds_toArray, List.set_cons_zero, List.set_cons_succ]
          refine f_val (.bool true) (by rfl) ?_ ?_
          · intro w' hC; clear hC; first | (go_simp; done)
          simp only [Act.put, List.setIfInBounds_toArray, List.set_cons_zero, List.set_cons_succ]
          refine f_val (.slice YA 0 yc) (by rfl) ?_ ?_
          · intro w' hC; clear hC; first | (go_simp; done)
          simp only [Act.put, List.setIfInBounds_toArray, List.set_cons_zero, List.set_cons_succ]
          refine f_val (.int .i64 0) (by rfl) ?_ ?_
          · intro w' hC; clear hC; first | (go_simp; done)
          simp only [Act.put, List.setIfInBounds_toArray, List.set_cons_zero, List.set_cons_succ]
          refine f_val (.bool true) (by rfl) ?_ ?_
          · intro w' hC; clear hC; first | (go_simp; done)
          simp only [Act.put, List.setIfInBounds_toArray, List.set_cons_zero, List.set_cons_succ]
          refine f_val (.bool true) (by rfl) ?_ ?_
          · intro w' hC; clear hC; first | (go_simp; done)
          simp only [Act.put, List.setIfInBounds_toArray, List.set_cons_zero, List.set_cons_succ]
          refine f_val (.bool true) (by rfl) ?_ ?_
          · intro w' hC; clear hC; first | (go_simp; done)
          simp only [Act.put, List.setIfInBounds_toArray, List.set_cons_zero, List.set_cons_succ]
          refine f_skip (by rfl) ?_
          simp only [Act.put, List.setIfInBounds_toArray, List.set_cons_zero, List.set_cons_succ]
          refine f_skip (by rfl) ?_
          simp only [Act.put, List.setIfInBounds_toArray, List.set_cons_zero, List.set_cons_succ]
          refine f_skip (by rfl) ?_
          simp only [Act.put, List.setIfInBounds_toArray, List.set_cons_zero, List.set_cons_succ]
          refine f_skip (by rfl) ?_
          simp only [Act.put, List.setIfInBounds_toArray, List.set_cons_zero, List.set_cons_succ]
          refine f_skip (by rfl) ?_
          simp only [Act.put, List.setIfInBounds_toArray, List.set_cons_zero, List.set_cons_succ]
          refine f_skip (by rfl) ?_
          simp only [Act.put, List.setIfInBounds_toArray, List.set_cons_zero, List.set_cons_succ]
          refine f_skip (by rfl) ?_
          simp only [Act.put, List.setIfInBounds_toArray, List.set_cons_zero, List.set_cons_succ]
          refine f_skip (by rfl) ?_
          simp only [Act.put, List.setIfInBounds_toArray, List.set_cons_zero, List.set_cons_succ]
          refine f_skip (by rfl) ?_
          simp only [Act.put, List.setIfInBounds_toArray, List.set_cons_zero, List.set_cons_succ]
          refine f_skip (by rfl) ?_
          simp only [Act.put, List.setIfInBounds_toArray, List.set_cons_zero, List.set_cons_succ]
          refine f_val (.bool true) (by rfl) ?_ ?_
          · intro w' hC; clear hC; first | (go_simp; done)
          simp only [Act.put, List.setIfInBounds_toArray, List.set_cons_zero, List.set_cons_succ]
          refine f_val (.bool true) (by rfl) ?_ ?_
          · intro w' hC; clear hC; first | (go_simp; done)
          simp only [Act.put, List.setIfInBounds_toArray, List.set_cons_zero, List.set_cons_succ]
          refine f_val (.bool true) (by rfl) ?_ ?_
          · intro w' hC; clear hC; first | (go_simp; done)
          simp only [Act.put, List.setIfInBounds_toArray, List.set_cons_zero, List.set_cons_succ]
          refine wpF_end ?_
          intro w9 hC hks
          have HCw9 := Lib.hid hC
          clear hC hks
          go_wp2_with (fail)
          go_ret
          exact ⟨rfl, H7.out.trans HCw9.out⟩
        | some ys =>
          have hy := put_getH hq
          have HPY := Lib.hid (fun w' (hC : Grows w7 w') => (hput_any YA ym yc ys size w' (Rs.owned htL hym.symm (owned_from (owned_grow hyo hC) (Nat.zero_le _))) (by have := get_few hq; have := HSB0.out.len; have h9 : ys.length = ym := hym.symm; omega) hs).mono fun e w'' ⟨A', m', c', he, _, ho', hg'⟩ => (⟨A', m', c', he, hy.2.2 ▸ Sl.owned ho', hg'⟩ : ∃ A m c, e = Ending.returned (.slice A m c) ∧ Sl w'' A m c xs ∧ Below w'.heap.size w' w''))
          dsimp only [Option.isSome]
          clear hyo hg7 hq hy hym
          go_wp2_with (fail)
          refine wp_region_facts (E := Grows) [valFact (.bool true), valFact (.bool true), valFact (.bool true), valFact (.bool false), valFact (.bool false), valFact undef, valFact undef, valFact undef, valFact (.bool false), valFact (.bool false), valFact (.bool true), valFact (.bool true), valFact (.slice YA ym yc), valFact (.int .i64 size), slFact (xs), valFact (.string ⟨xs.toArray⟩), valFact (.slice A3 n3 c3), valFact (.string ⟨xs.toArray⟩), valFact (.bool true), valFact (.bool true), valFact (.bool true), valFact (.bool true), valFact (.bool true)] (by kernel_rfl) (by kernel_rfl) (fun _ _ _ => Grows.trans) (grows_drew _) ?_
          refine f_val (.bool true) (by rfl) ?_ ?_
          · intro w' hC; clear hC; first | (go_simp; done)
          simp only [Act.put, List.setIfInBounds_toArray, List.set_cons_zero, List.set_cons_succ]
          refine f_val (.bool true) (by rfl) ?_ ?_
          · intro w' hC; clear hC; first | (go_simp; done)
          simp only [Act.put, List.setIfInBounds_toArray, List.set_cons_zero, List.set_cons_succ]
          refine f_val (.bool true) (by rfl) ?_ ?_
          · intro w' hC; clear hC; first | (go_simp; done)
          simp only [Act.put, List.setIfInBounds_toArray, List.set_cons_zero, List.set_cons_succ]
          refine f_val (.bool false) (by rfl) ?_ ?_
          · intro w' hC; clear hC; first | (go_simp; done)
          simp only [Act.put, List.setIfInBounds_toArray, List.set_cons_zero, List.set_cons_succ]
          refine f_val (.bool false) (by rfl) ?_ ?_
          · intro w' hC; clear hC; first | (go_simp; done)
          simp only [Act.put, List.setIfInBounds_toArray, List.set_cons_zero, List.set_cons_succ]
          refine f_skip (by rfl) ?_
          simp only [Act.put, List.setIfInBounds_toArray, List.set_cons_zero, List.set_cons_succ]
          refine f_skip (by rfl) ?_
          simp only [Act.put, List.setIfInBounds_toArray, List.set_cons_zero, List.set_cons_succ]
          refine f_skip (by rfl) ?_
          simp only [Act.put, List.setIfInBounds_toArray, List.set_cons_zero, List.set_cons_succ]
          refine f_val (.bool false) (by rfl) ?_ ?_
          · intro w' hC; clear hC; first | (go_simp; done)
          simp only [Act.put, List.setIfInBounds_toArray, List.set_cons_zero, List.set_cons_succ]
          refine f_val (.bool false) (by rfl) ?_ ?_
          · intro w' hC; clear hC; first | (go_simp; done)
          simp only [Act.put, List.setIfInBounds_toArray, List.set_cons_zero, List.set_cons_succ]
          refine f_val (.bool true) (by rfl) ?_ ?_
          · intro w' hC; clear hC; first | (go_simp; done)
          simp only [Act.put, List.setIfInBounds_toArray, List.set_cons_zero, List.set_cons_succ]
          refine f_val (.bool true) (by rfl) ?_ ?_
          · intro w' hC; clear hC; first | (go_simp; done)
          simp only [Act.put, List.setIfInBounds_toArray, List.set_cons_zero, List.set_cons_succ]
          refine f_val (.slice YA ym yc) (by rfl) ?_ ?_
          · intro w' hC; clear hC; first | (go_simp; done)
          simp only [Act.put, List.setIfInBounds_toArray, List.set_cons_zero, List.set_cons_succ]
          refine f_val (.int .i64 size) (by rfl) ?_ ?_
          · intro w' hC; clear hC; first | (go_simp; done)
          simp only [Act.put, List.setIfInBounds_toArray, List.set_cons_zero, List.set_cons_succ]
          refine f_new (xs) 9 #[.slice YA ym yc, .int .i64 size] (by rfl) (by intro w' hC; clear hC; go_simp) ?_ ?_
          · intro w' hC hks; exact HPY.out w' hC
          intro PA pc
          simp only [Act.put, List.setIfInBounds_toArray, List.set_cons_zero, List.set_cons_succ]
          refine f_known (.string ⟨xs.toArray⟩) (by rfl) ?_ ?_
          · intro w' hC hks; exact run_op_string rfl rfl (Known.get hks 0 rfl (by rfl))
          simp only [Act.put, List.setIfInBounds_toArray, List.set_cons_zero, List.set_cons_succ]
          refine f_val (.slice A3 n3 c3) (by rfl) ?_ ?_
          · intro w' hC; clear hC; first | (go_simp; done)
          simp only [Act.put, List.setIfInBounds_toArray, List.set_cons_zero, List.set_cons_succ]
          refine f_known (.string ⟨xs.toArray⟩) (by rfl) ?_ ?_
          · intro w' hC hks; exact run_op_string rfl rfl (HSB.out w' hC)
          simp only [Act.put, List.setIfInBounds_toArray, List.set_cons_zero, List.set_cons_succ]
          refine f_val (.bool true) (by rfl) ?_ ?_
          · intro w' hC; clear hC; first | (go_simp; done)
          simp only [Act.put, List.setIfInBounds_toArray, List.set_cons_zero, List.set_cons_succ]
          refine f_val (.bool true) (by rfl) ?_ ?_
          · intro w' hC; clear hC; first | (go_simp; done)
          simp only [Act.put, List.setIfInBounds_toArray, List.set_cons_zero, List.set_cons_succ]
          refine f_val (.bool true) (by rfl) ?_ ?_
          · intro w' hC; clear hC; first | (go_simp; done)
          simp only [Act.put, List.setIfInBounds_toArray, List.set_cons_zero, List.set_cons_succ]
          refine f_val (.bool true) (by rfl) ?_ ?_
          · intro w' hC; clear hC; first | (go_simp; done)
          simp only [Act.put, List.setIfInBounds_toArray, List.set_cons_zero, List.set_cons_succ]
          refine f_val (.bool true) (by rfl) ?_ ?_
          · intro w' hC; clear hC; first | (go_simp; done)
          simp only [Act.put, List.setIfInBounds_toArray, List.set_cons_zero, List.set_cons_succ]
          refine wpF_end ?_
          intro w9 hC hks
          have HCw9 := Lib.hid hC
          clear hC hks
          go_wp2_with (fail)
          go_ret
          exact ⟨rfl, H7.out.trans HCw9.out⟩

set_option maxRecDepth 100000 in
theorem hintBack_lifted (os : Os) (started : os.Started) (H : Type) (enc : TypeId × Value → H) :
    ReturnsInHanded {} Try.checked os 3 .any (Rows.hintBackSpec.pre6 enc Try.prog Try.f3 Rows.hintBackRow.domain false) (Rows.hintBackSpec.post enc Try.prog Try.f3 false true false false) := by
  refine lift_law (C := Try.checked) H enc own started (by kernel_rfl) Try.func3
    (ChangeSpec.witness6 (enc := enc) (C := Try.checked) false ⟨#[], #[.slice none 0 0, .int .i64 0, .int .i64 0, .slice none 0 0], []⟩ 16 (by kernel_rfl) (by kernel_rfl) (by kernel_rfl) (by kernel_rfl))
    laidOut (of_readable (by kernel_rfl)) rfl Try.underlying4 rfl (fun ds hd => ?_) (fun W base args ds p hval hA hsz => ?_)
  · match ds, hd with
    | [d1, d2, d3, d4], _ => rfl
  · rw [Try.params3] at hA hval hsz
    obtain ⟨v0, vs0, d0, ds0, p0, q0, hargs, rfl, rfl, h0, r0⟩ := trodAll_cons hA
    obtain ⟨v1, vs1, d1, ds1, p1, q1, rfl, rfl, rfl, h1, r1⟩ := trodAll_cons r0
    obtain ⟨v2, vs2, d2, ds2, p2, q2, rfl, rfl, rfl, h2, r2⟩ := trodAll_cons r1
    obtain ⟨v3, vs3, d3, ds3, p3, q3, rfl, rfl, rfl, h3, r3⟩ := trodAll_cons r2
    obtain ⟨rfl, rfl, rfl⟩ := trodAll_nil r3
    obtain rfl : args = #[v0, v1, v2, v3] := by cases args; simp_all
    obtain ⟨A0, n0, c0, xs0, rfl, hx0, hb0⟩ := open_hints (hval 0 22 v0 rfl rfl) h0 hsz (j := 0) rfl rfl
    obtain ⟨a1, rfl, _, _, w1⟩ := open_int Try.underlying3 (hval 1 3 v1 rfl rfl) h1
    have b1 := bounds_i64 w1
    obtain ⟨a2, rfl, _, _, w2⟩ := open_int Try.underlying3 (hval 2 3 v2 rfl rfl) h2
    have b2 := bounds_i64 w2
    obtain ⟨A3, n3, c3, xs3, rfl, hx3⟩ := open_bytes Try.underlying23 Try.underlying5 (by kernel_rfl) (by kernel_rfl) (hval 3 23 v3 rfl rfl) h3 hsz (j := 3) rfl rfl
    exact hintBack_law W A0 n0 c0 xs0 hx0 hb0 a1 (by omega) a2 (by omega) A3 n3 c3 xs3 hx3

theorem hintBack_over : Rows.hintBackRow.holds Try.pinned (OpenSpec.ofChange Rows.hintBackSpec) :=
  OpenClaim.holds_of_wide 3 Try.f3 rfl rfl rfl rfl rfl rfl rfl ⟨rfl, rfl, rfl, rfl, rfl⟩ rfl rfl rfl rfl rfl (by kernel_rfl) Try.func3 (by kernel_rfl)
    (of_decide_eq_true (by kernel_rfl)) (by unfold Func.isWrapper; first | (rw [if_pos (by decide +kernel)]; kernel_rfl) | (rw [if_neg (by decide +kernel)]; exact ⟨rfl, rfl⟩))
    (fun os started H enc _ => hintBack_lifted os started H enc)
theorem hintBack_holds : Rows.HintBackSaid := hintBack_over
end Go.Proofs.Ytdjlhdeejpndcaa
