/-
  Statement ManSpoilt: a manifest in which something within 32 bits has turned is ErrCorrupt. Any manifest, any numbers, no condition.
-/
import Derived.Test.YtdkpbphgaenlnaaMU
import Derived.Test.YtdkpbphgaenlnaaMnFlip
import Derived.Test.YtdkpbphgaenlnaaMX
import Derived.Test.YtdkpbphgaenlnaaCame
import Derived.ProofKit
import Derived.ChangeOld
namespace Go.Proofs.Ytdkpbphgaenlnaa
open Go.ChangeShapes Go.WideShapes Go.ChangeAt Go.RowKit
set_option linter.unusedSimpArgs false
set_option linter.unusedVariables false
set_option maxHeartbeats 16000000 in
set_option maxRecDepth 100000 in
theorem manSpoilt_law (w : World) (A0 : Option Addr) (n0 c0 : Nat) (x : Mn) (hx : MnIn w A0 n0 c0 x) (pl : Int) (hpl : 0 ≤ pl ∧ pl ≤ 65535) (zz : Int) (hzz : 0 ≤ zz ∧ zz ≤ 4294967295) :
    Calls Try.prog 6 #[.agg #[.slice A0 n0 c0, .int .i64 x.next], .int .u16 pl, .int .u32 zz] w fun e w' => e = .returned (.bool true) ∧ Below w.heap.size w w' := by
  have hs2 : IntKind.i64.wrap pl = pl := IntWalk.i64_in _ (by omega)
  have hg1 := grows_alloc w (.cells #[.slice A0 n0 c0, .int .i64 x.next] 24)
  have hm1 := Whole.made w 24 #[.slice A0 n0 c0, .int .i64 x.next]
  obtain ⟨w1, hw1⟩ : ∃ y, w.alloc (.cells #[.slice A0 n0 c0, .int .i64 x.next] 24) = y := ⟨_, rfl⟩
  rw [hw1] at hg1 hm1
  have HX := Lib.hid (hx.grow hg1)
  have HM := Lib.hid hm1
  have HG := Lib.hid hg1
  obtain ⟨nx, hnx⟩ : ∃ nx, x.next = nx := ⟨_, rfl⟩
  rw [hnx] at HM hw1 ⊢
  have HNX := Lib.hid hnx
  clear hx hg1 hm1 hnx
  go_enter Try.func6, Try.ntmps6
  go_wp2_with (fail)
  refine (head10_any w1).mono ?_
  rintro e w2 ⟨rfl, hb2⟩
  have HG2 := Lib.hid (show Grows w1 w2 from hb2)
  clear hb2 hw1
  go_wp2_with (fail)
  refine (new_any w2 1048576).mono ?_
  rintro e w3 ⟨d, rfl, hn⟩
  have HD := Lib.hid (show DkIn w.heap.size w w3 d (fun k => w.heap.size ≤ k ∧ k < w2.heap.size) (Dk.new 1048576) from DkIn.new hn (HG.out.trans HG2.out).size (HG.out.trans HG2.out) (fun k h => h.2))
  have HG3 := Lib.hid (show Grows w1 w3 from HG2.out.trans (by obtain ⟨_, _, _, _, _, h⟩ := hn; exact h))
  clear hn
  have hm3 := HG3.out.whole HM.out
  have q0 := hm3.cell 0
  have q1 := hm3.cell 1
  simp only [List.getElem?_toArray, List.getElem?_cons_zero, List.getElem?_cons_succ] at q0 q1
  have HM3 := Lib.hid hm3
  have HX3 := Lib.hid (HX.out.grow HG3.out)
  clear hm3
  by_cases h20 : n0 ≤ 2000
  rotate_left 1
  · have h20' : (n0 : Int) > 2000 := by omega
    go_wp2_with (fail)
    go_ret
    exact ⟨rfl, HD.out.low⟩
  have h20' : ¬ ((n0 : Int) > 2000) := by omega
  obtain ⟨r, hr⟩ : ∃ r, rightM x = r := ⟨_, rfl⟩
  have hrt := mright_any w3 A0 n0 c0 x HX3.out
  rw [HNX.out, hr] at hrt
  have HRT := Lib.hid hrt
  have HR := Lib.hid hr
  clear hrt hr
  cases r with
  | false =>
    go_wp2_with (fail)
    refine HRT.out.mono ?_
    rintro e w4 ⟨rfl, hg4⟩
    have HD4 := Lib.hid (HD.out.grow hg4)
    clear hg4
    go_wp2_with (fail)
    go_ret
    exact ⟨rfl, HD4.out.low⟩
  | true =>
    by_cases hz0 : zz = 0
    · subst hz0
      go_wp2_with (fail)
      refine HRT.out.mono ?_
      rintro e w4 ⟨rfl, hg4⟩
      have HD4 := Lib.hid (HD.out.grow hg4)
      clear hg4
      go_wp2_with (fail)
      go_ret
      exact ⟨rfl, HD4.out.low⟩
    have hz0b : (zz == 0) = false := by rw [beq_eq_false_iff_ne]; exact hz0
    obtain ⟨zn, hzn⟩ : ∃ n : Nat, zz = (n : Int) := ⟨zz.toNat, by omega⟩
    subst hzn
    have HZN := Lib.hid (show zn < 4294967296 ∧ zn ≠ 0 by omega)
    have hss := SS.new 1048576 (by omega)
    rcases hss.save HR.out with ⟨hs0, hss1⟩ | ⟨hwl, _⟩
    rotate_left 1
    · cases hwl
    obtain ⟨ff, hff⟩ : ∃ f, (Dk.new 1048576).made = f := ⟨_, rfl⟩
    rw [hff] at hss1
    obtain ⟨⟨m1, e1⟩, hsv⟩ : ∃ q, saveP (Dk.new 1048576) x = q := ⟨_, rfl⟩
    have hok1 := (DkOk.new 1048576).save x
    rw [hsv] at hs0 hss1 hok1
    dsimp only at hs0 hss1 hok1
    subst hs0
    have HSV := Lib.hid hsv
    have HSS := Lib.hid (And.intro hss1 (hok1.mono (show 0 + 4100 ≤ 4100 by omega)))
    have hsz := hss1.sized
    obtain ⟨ln, hln⟩ : ∃ l, (putM x).length = l := ⟨_, rfl⟩
    rw [hln] at hsz
    have hlb : 15 ≤ ln ∧ ln ≤ 4015 := by have h1 := putM_length HR.out; have h2 := putM_small x; omega
    obtain ⟨E5, hE5⟩ : ∃ e : Int, 8 * (ln : Int) - 31 = e := ⟨_, rfl⟩
    obtain ⟨E6, hE6⟩ : ∃ e : Int, pl.tmod E5 = e := ⟨_, rfl⟩
    have h6a : 0 ≤ E6 := by rw [← hE6]; exact Int.tmod_nonneg _ hpl.1
    have h6b : E6 < E5 := by rw [← hE6]; exact Int.tmod_lt_of_pos pl (by omega)
    obtain ⟨KK, hKK⟩ : ∃ k : Nat, E6 = (k : Int) := ⟨E6.toNat, by omega⟩
    subst hKK
    obtain ⟨hf1, hf2⟩ := hss1.spoilt (K := KK) (v := zn) (by rw [hln]; omega) HZN.out.1 HZN.out.2
    obtain ⟨⟨m2, v2⟩, hfl⟩ : ∃ q, m1.flip nmM (KK : Nat) zn = q := ⟨_, rfl⟩
    have hok2 := HSS.out.2.flip nmM (KK : Nat) zn
    rw [hfl] at hf1 hf2 hok2
    dsimp only at hf1 hf2 hok2
    subst hf1
    have HF := Lib.hid (And.intro hfl (And.intro hf2 hok2))
    have HSZ := Lib.hid hsz
    obtain ⟨E2, hE2⟩ : ∃ e : Int, 8 * (ln : Int) = e := ⟨_, rfl⟩
    have s1 : IntKind.i64.wrap (8 * (ln : Int)) = E2 := by rw [IntWalk.i64_in _ (by omega)]; exact hE2
    have s2 : IntKind.i64.wrap (E2 - 31) = E5 := by rw [IntWalk.i64_in _ (by omega)]; omega
    have s6 : IntKind.i64.wrap (KK : Int) = (KK : Int) := IntWalk.i64_in _ (by omega)
    have s5z : (E5 == 0) = false := by rw [beq_eq_false_iff_ne]; omega
    have s5n : ¬ E5 = 0 := by omega
    have HKB := Lib.hid (show KK ≤ 100000 by omega)
    clear hz0 hss hss1 hsv hok1 hsz hlb hln hE5 h6a h6b hfl hf2 hok2 hE2 hff
    go_wp2_with (fail)
    refine HRT.out.mono ?_
    rintro e w4 ⟨rfl, hg4⟩
    have HD4 := Lib.hid (HD.out.grow hg4)
    have hm4 := hg4.whole HM3.out
    have p0 := hm4.cell 0
    have p1 := hm4.cell 1
    simp only [List.getElem?_toArray, List.getElem?_cons_zero, List.getElem?_cons_succ] at p0 p1
    have HX4 := Lib.hid (HX3.out.grow hg4)
    clear hg4 hm4 q0 q1
    go_wp2_with (fail)
    have hsa := msave_any w4 A0 n0 c0 x HX4.out HD4.out (DkOk.new 1048576) (by omega)
    rw [HNX.out, HSV.out] at hsa
    refine hsa.mono ?_
    clear hsa
    rintro e w5 ⟨rfl, hd5, hst5⟩
    have HD5 := Lib.hid (hd5.less (out' := fun _ => False) fun k h => h.elim)
    clear hd5 hst5 p0 p1
    go_wp2_with (fail)
    refine (size_in nmM HD5.out (by decide) HSZ.out).mono ?_
    rintro e w6 ⟨rfl, rfl⟩
    go_wp2_with (fail)
    refine (flip_in nmM (KK : Nat) zn HD5.out HSS.out.2 (by omega) (by decide) (by have := HKB.out; omega) HZN.out.1 HF.out.1).mono ?_
    rintro e w7 ⟨rfl, hd7, hst7⟩
    have HD7 := Lib.hid hd7
    clear hd7 hst7
    go_wp2_with (fail)
    have hlo := mload_any w7 HD7.out HF.out.2.2 (by omega)
    rw [HF.out.2.1] at hlo
    refine hlo.mono ?_
    clear hlo
    rintro e w8 ⟨A8, k8, c8, rfl, ho, hg⟩
    dsimp only at ho
    have ga := grows_alloc w8 (.cells #[.slice A8 k8 c8, .int .i64 Mn.none.next] 24)
    have HD9 := Lib.hid (HD7.out.grow (Grows.trans hg ga))
    have HX9 := Lib.hid (show Ints (w8.alloc (.cells #[.slice A8 k8 c8, .int .i64 Mn.none.next] 24)) A8 k8 c8 Mn.none.segs from Ints.owned (owned_from (owned_grow ho ga) (Nat.zero_le _)))
    clear ho hg ga
    dsimp only
    go_wp2_with (fail)
    have hk8 := HX9.out.len
    have hsm := msame_any _ A8 k8 c8 Mn.none none 0 0 Mn.none HX9.out ⟨Row.nil _ _ _, Nat.le_refl _, fun _ => rfl⟩ (by simp [Mn.none] at hk8; omega)
    rw [decide_eq_true rfl] at hsm
    refine hsm.mono ?_
    clear hsm hk8
    rintro e w10 ⟨rfl, hg⟩
    have HD10 := Lib.hid (HD9.out.grow hg)
    clear hg
    go_wp2_with (fail)
    go_ret
    exact ⟨rfl, HD10.out.low⟩

set_option maxRecDepth 100000 in
theorem manSpoilt_lifted (os : Os) (started : os.Started) (H : Type) (enc : TypeId × Value → H) :
    ReturnsInHanded {} Try.checked os 6 .any (Rows.manSpoiltSpec.pre6 enc Try.prog Try.f6 Rows.manSpoiltRow.domain false) (Rows.manSpoiltSpec.post enc Try.prog Try.f6 false true false false) := by
  refine lift_law (C := Try.checked) H enc own started (by kernel_rfl) Try.func6
    (ChangeSpec.witness6 (enc := enc) (C := Try.checked) false ⟨#[], #[.agg #[.slice none 0 0, .int .i64 0], .int .u16 0, .int .u32 0], []⟩ 16 (by kernel_rfl) (by kernel_rfl) (by kernel_rfl) (by kernel_rfl))
    laidOut (of_readable (by kernel_rfl)) rfl Try.underlying4 rfl (fun ds hd => ?_) (fun W base args ds p hval hA hsz => ?_)
  · match ds, hd with
    | [d1, d2, d3], _ => rfl
  · rw [Try.params6] at hA hval hsz
    obtain ⟨v0, vs0, d0, ds0, p0, q0, hargs, rfl, rfl, h0, r0⟩ := trodAll_cons hA
    obtain ⟨v1, vs1, d1, ds1, p1, q1, rfl, rfl, rfl, h1, r1⟩ := trodAll_cons r0
    obtain ⟨v2, vs2, d2, ds2, p2, q2, rfl, rfl, rfl, h2, r2⟩ := trodAll_cons r1
    obtain ⟨rfl, rfl, rfl⟩ := trodAll_nil r2
    obtain rfl : args = #[v0, v1, v2] := by cases args; simp_all
    obtain ⟨A0, n0, c0, xs0, rfl, hx0⟩ := open_man (hval 0 24 v0 rfl rfl) h0
    obtain ⟨a1, rfl, _, _, w1⟩ := open_int Try.underlying43 (hval 1 43 v1 rfl rfl) h1
    have b1 := bounds_u16 w1
    obtain ⟨a2, rfl, _, _, w2⟩ := open_int Try.underlying44 (hval 2 44 v2 rfl rfl) h2
    have b2 := bounds_u32 w2
    exact manSpoilt_law W A0 n0 c0 xs0 hx0 a1 (by omega) a2 (by omega)

theorem manSpoilt_over : Rows.manSpoiltRow.holds Try.pinned (OpenSpec.ofChange Rows.manSpoiltSpec) :=
  OpenClaim.holds_of_wide 6 Try.f6 rfl rfl rfl rfl rfl rfl rfl ⟨rfl, rfl, rfl, rfl, rfl⟩ rfl rfl rfl rfl rfl (by kernel_rfl) Try.func6 (by kernel_rfl)
    (of_decide_eq_true (by kernel_rfl)) (by unfold Func.isWrapper; first | (rw [if_pos (by decide +kernel)]; kernel_rfl) | (rw [if_neg (by decide +kernel)]; exact ⟨rfl, rfl⟩))
    (fun os started H enc _ => manSpoilt_lifted os started H enc)
theorem manSpoilt_holds : Rows.ManSpoiltSaid := manSpoilt_over
end Go.Proofs.Ytdkpbphgaenlnaa
