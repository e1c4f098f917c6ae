/-
  HintSize, of what is of bulk at most 1048576: hints' bytes are as many as their keys, fifteen more for each, and twenty-one.
-/
import Derived.Test.YtdjlhdeejpndcaaRows
import Derived.Test.YtdjlhdeejpndcaaChecked
import Derived.Test.YtdjlhdeejpndcaaFrame
import Derived.Test.YtdjlhdeejpndcaaSeat
import Derived.Test.YtdjlhdeejpndcaaHtIn
import Derived.Test.YtdjlhdeejpndcaaHtHead
import Derived.Test.YtdjlhdeejpndcaaHtHead11
import Derived.Test.YtdjlhdeejpndcaaRowsIn
import Derived.Test.YtdjlhdeejpndcaaHtUpto
import Derived.ProofKit
import Derived.ChangeOld
namespace Go.Proofs.Ytdjlhdeejpndcaa
open Go.ChangeShapes Go.WideShapes Go.ChangeAt Go.RowKit
set_option linter.unusedSimpArgs false
set_option linter.unusedVariables false
theorem wrap_add {a b c : Nat} (h : a + b = c) (hc : c ≤ 1000000) : IntKind.i64.wrap ((a : Int) + (b : Int)) = (c : Int) ∧ wrap64 ((a : Int) + (b : Int)) = (c : Int) := by
  have h1 : IntKind.i64.wrap ((a : Int) + (b : Int)) = (a : Int) + (b : Int) := IntWalk.i64_in _ ⟨by omega, by omega⟩
  have h2 : (a : Int) + (b : Int) = (c : Int) := by omega
  rw [h2] at h1 ⊢
  exact ⟨h1, by rw [← IntWalk.i64_left]; exact h1⟩

set_option maxHeartbeats 16000000 in
set_option maxRecDepth 100000 in
theorem hintSize_law (w : World) (A0 : Option Addr) (n0 c0 : Nat) (l : List Ht) (hx : Hts w A0 n0 c0 l) (hn : n0 ≤ 1048576) (size : Int) (hs : -9223372036854775808 ≤ size ∧ size ≤ 9223372036854775807) :
    Calls Try.prog 5 #[.slice A0 n0 c0, .int .i64 size] w fun e w' => e = .returned (.bool true) ∧ Below w.heap.size w w' := by
  have HX := Lib.hid hx
  have HLEN := Lib.hid hx.len
  have HMA := Lib.hid (fun w' (hg : Grows w w') => many_any A0 n0 c0 l w' (hx.grow hg) (by omega))
  clear hx
  go_enter Try.func5, Try.ntmps5
  go_wp2_with (fail)
  refine (head11_any w).mono ?_
  rintro e w1 ⟨rfl, hg1⟩
  have HG1 := Lib.hid hg1
  clear hg1
  go_wp2_with (fail)
  refine (hput_any A0 n0 c0 l size w1 (HX.out.grow HG1.out) (by omega) hs).mono ?_
  rintro e w2 ⟨PA, pm, pc, rfl, hpm, _, hg2⟩
  have HG2 := Lib.hid (And.intro (HG1.out.trans hg2) hpm)
  clear hg2 hpm
  go_wp2_with (fail)
  refine (HMA.out w2 HG2.out.1).mono ?_
  rintro e w3 ⟨r, rfl, hr, hg3⟩
  have HG3 := Lib.hid (And.intro (HG2.out.1.trans hg3) hr)
  clear hg3 hr
  cases r
  rotate_left 1
  · go_wp2_with (fail)
    go_ret
    exact ⟨rfl, HG3.out.1⟩
  have hn3 := HG3.out.2 rfl
  by_cases hp0 : pm = 0
  · subst hp0
    go_wp2_with (fail)
    go_ret
    exact ⟨rfl, HG3.out.1⟩
  have hpe : ((pm : Int) == 0) = false := by rw [beq_eq_false_iff_ne]; omega
  have hro : rightH l = true ∧ okS size = true := by
    refine Classical.byContradiction fun hno => hp0 ?_
    rw [HG2.out.2, putH_ill]
    · rfl
    · rcases h : rightH l with _ | _
      · exact .inl rfl
      · rcases h2 : okS size with _ | _
        · exact .inr rfl
        · exact absurd ⟨h, h2⟩ hno
  have HPL := Lib.hid (show pm = (l.map fun h => 15 + h.key.length).sum + 21 by rw [HG2.out.2]; exact putH_length hro.1 hro.2)
  have HAL := Lib.hid (rightF_all hro.1)
  clear hro hp0
  go_wp2_with (fail)
  go_loopw [7, 8] (fun s i wr => ∃ (j v : Nat), j ≤ n0 ∧ i = .int .i64 (j : Nat) ∧ s = .int .i64 (v : Nat) ∧ Hid (v = 21 + ((l.take j).map fun h => 15 + h.key.length).sum) ∧ Hid (Grows w wr)) (fun _ i _ => n0 - (intOf i).toNat)
  case atStart => exact ⟨0, 21, by omega, rfl, rfl, Lib.hid rfl, Lib.hid HG3.out.1⟩
  case round =>
    obtain ⟨j, v, hj, rfl, rfl, HV, HG⟩ := hrel
    have hvb : v ≤ 100000 := by
      have h1 := sum_below (q := 79) (l.take j) fun h hh => by have := alone_nums (HAL.out h (List.mem_of_mem_take hh)); omega
      rw [List.length_take] at h1
      have := HV.out
      omega
    by_cases hlt : j < n0
    · have hlt' : (j : Int) < (n0 : Int) := by omega
      have k0 : (0 : Int) ≤ (j : Int) := by omega
      obtain ⟨ad, x, rfl, hxj, _, hc⟩ := Hts.at HX.out hlt
      obtain ⟨c0, c1, c2, c3⟩ := hc wr HG.out
      obtain ⟨ks, hks⟩ : ∃ ks : ByteArray, (⟨x.key.toArray⟩ : ByteArray) = ks := ⟨_, rfl⟩
      obtain ⟨kl, hkl⟩ : ∃ kl : Nat, x.key.length = kl := ⟨_, rfl⟩
      have hsz : ks.size = kl := by rw [← hks, ← hkl]; simp [ByteArray.size]
      have hk64 : kl ≤ 64 := by have := alone_nums (HAL.out x (List.mem_of_getElem? hxj)); omega
      rw [hks] at c1
      have htk : l.take (j + 1) = l.take j ++ [x] := by rw [List.take_add_one, hxj]; rfl
      obtain ⟨v1, hv1⟩ : ∃ q : Nat, v + 15 = q := ⟨_, rfl⟩
      obtain ⟨v2, hv2⟩ : ∃ q : Nat, v1 + kl = q := ⟨_, rfl⟩
      have HV2 := Lib.hid (show v2 = 21 + ((l.take (j + 1)).map fun h => 15 + h.key.length).sum by
        rw [htk, List.map_append, List.map_cons, List.map_nil, List.sum_append, List.sum_cons, List.sum_nil, hkl]
        have := HV.out
        omega)
      have b1 : v1 ≤ 1000000 := by omega
      have b2 : v2 ≤ 1000000 := by omega
      have hjn : j + 1 ≤ n0 := by omega
      have hme := Lib.hid (show n0 - (j + 1) < n0 - j by omega)
      have HW := Lib.hid (show wrap64 ((v : Int) + 15 + (ks.size : Int)) = (v2 : Int) by
        have h1 := (wrap_add (a := v + 15) (b := kl) (c := v2) (by omega) b2).2
        rw [hsz]
        exact h1)
      clear hc hxj hks hkl hsz htk hv1 hv2 c0 c2 c3
      go_wp2_with (fail)
      go_roundw
      case rel => exact ⟨j + 1, v2, hjn, by go_num, by rw [HW.out], HV2, HG⟩
      case measure => simp [intOf]; omega
    · have hlt' : ¬ (j : Int) < (n0 : Int) := by omega
      have hvp : v = pm := by
        have h1 := HV.out
        have h2 := HPL.out
        rw [List.take_of_length_le (by rw [HLEN.out]; omega)] at h1
        omega
      subst hvp
      clear hpe
      go_wp2_with (fail)
      go_ret
      exact ⟨rfl, HG.out⟩

set_option maxRecDepth 100000 in
theorem hintSize_lifted (os : Os) (started : os.Started) (H : Type) (enc : TypeId × Value → H) (F : Stop.Interp) :
    ReturnsInHanded {} Try.checked os 5 .any ((Rows.OpenSpec.upto Rows.hintSizeSpec).pre6 enc Try.prog Try.f5 Rows.hintSizeUptoRow.domain false) (((Rows.OpenSpec.upto Rows.hintSizeSpec).at F).post enc Try.prog Try.f5 false true false false) := by
  refine lift_law_upto (C := Try.checked) (s := Rows.hintSizeSpec) H enc own started (by kernel_rfl) Try.func5
    (OpenSpec.witness (enc := enc) (C := Try.checked) (s := Rows.OpenSpec.upto Rows.hintSizeSpec) (k := Rows.uptoSmall) rfl false ⟨#[], #[.slice none 0 0, .int .i64 0], []⟩ 16 (by kernel_rfl) (by kernel_rfl) (by kernel_rfl)
      (x := ([.nil, .lit (.int .i64 0)], [], [])) (by kernel_rfl) rfl (by kernel_rfl))
    laidOut (of_readable (by kernel_rfl)) rfl Try.underlying4 rfl (fun ds hd => ?_) (fun W base args ds p hval hA hk => ?_)
  · match ds, hd with
    | [d1, d2], _ => rfl
  · rw [Try.params5] at hA hval
    obtain ⟨v0, vs0, d0, ds0, p0, q0, hargs, rfl, rfl, h0, r0⟩ := trodAll_cons hA
    obtain ⟨v1, vs1, d1, ds1, p1, q1, rfl, rfl, rfl, h1, r1⟩ := trodAll_cons r0
    obtain ⟨rfl, rfl, rfl⟩ := trodAll_nil r1
    obtain rfl : args = #[v0, v1] := by cases args; simp_all
    have hb0 := Nat.le_trans (bulk_part (List.mem_cons_self (a := d0) (l := [d1]))) hk
    obtain ⟨A0, n0, c0, xs0, rfl, hx0, hn0⟩ := open_hintsU (hval 0 22 v0 rfl rfl) h0 hb0
    obtain ⟨a1, rfl, _, _, w1⟩ := open_int Try.underlying3 (hval 1 3 v1 rfl rfl) h1
    have b1 := bounds_i64 w1
    exact hintSize_law W A0 n0 c0 xs0 hx0 hn0 a1 (by omega)

theorem hintSize_holds : Rows.HintSizeUptoSaid :=
  OpenClaim.holds_of_cond 5 Try.f5 rfl rfl rfl rfl rfl rfl rfl ⟨rfl, rfl, rfl, rfl, rfl⟩ rfl rfl rfl rfl rfl (by kernel_rfl) Try.func5 (by kernel_rfl)
    (of_decide_eq_true (by kernel_rfl)) (by unfold Func.isWrapper; first | (rw [if_pos (by decide +kernel)]; kernel_rfl) | (rw [if_neg (by decide +kernel)]; exact ⟨rfl, rfl⟩))
    (fun os started H enc _ F => hintSize_lifted os started H enc F)
end Go.Proofs.Ytdjlhdeejpndcaa

