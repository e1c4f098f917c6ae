/-
  Statement DiskFlips: bits that are turned twice are as they were; no more than 32 that stand together are touched. Any bytes, place and bits, no condition.
-/
import Derived.Test.YtmfhpfehphbklaaDkFp
import Derived.Test.YtmfhpfehphbklaaDkHead
import Derived.Test.YtmfhpfehphbklaaDkIn
import Derived.Test.YtmfhpfehphbklaaCame
import Derived.ProofKit
import Derived.ChangeOld
namespace Go.Proofs.Ytmfhpfehphbklaa
open Go.ChangeShapes Go.WideShapes Go.ChangeAt Go.RowKit
set_option linter.unusedSimpArgs false
set_option linter.unusedVariables false

open Fp
attribute [local irreducible] Go.wpQuiet
set_option maxHeartbeats 16000000 in
set_option maxRecDepth 100000 in
theorem diskFlips_law (w : World) (A0 : Option Addr) (n0 c0 : Nat) (xs : List UInt8) (hx : Came w A0 n0 c0 xs) (a0 : Int) (ha0 : 0 ≤ a0 ∧ a0 < 65536) (z0 : Int) (hz0 : 0 ≤ z0 ∧ z0 < 4294967296) :
    Calls Try.prog 11 #[.slice A0 n0 c0, .int .u16 a0, .int .u32 z0] w fun e w' => e = .returned (.bool true) ∧ Below w.heap.size w w' := by
  obtain ⟨a, rfl⟩ := Int.eq_ofNat_of_zero_le ha0.1
  obtain ⟨z, rfl⟩ := Int.eq_ofNat_of_zero_le hz0.1
  have ha : a < 65536 := by omega
  have hz : z < 4294967296 := by omega
  clear ha0 hz0
  have hl0 := hx.sl.len
  have HX := Lib.hid (And.intro hx.sl (And.intro hl0 hx.sl.block))
  have hn0 : n0 ≤ 140737488355328 := by have := hx.cap; have := hx.reach; omega
  clear hx hl0
  go_enter Try.func11, Try.ntmps11
  go_wp2_with (fail)
  refine (head8_any w).mono ?_
  rintro e w0 ⟨rfl, hb0⟩
  have HB0 := Lib.hid hb0
  clear hb0
  go_wp2_with (fail)
  refine (new_any w0 1048576).mono ?_
  rintro e w1 ⟨d, rfl, hn⟩
  have HD := Lib.hid (show DkIn w.heap.size w w1 d (fun _ => False) (Dk.new 1048576) from DkIn.new hn HB0.out.size HB0.out (fun k h => h.elim))
  clear hn
  by_cases hnz : n0 = 0
  · subst hnz
    go_wp2_with (fail)
    go_ret
    exact ⟨rfl, HD.out.low⟩
  by_cases hgr : n0 ≤ 3000
  · have hgr' : ¬ ((n0 : Int) > 3000) := by omega
    have hnz' : ((n0 : Int) == 0) = false := by rw [beq_eq_false_iff_ne]; omega
    have HG := Lib.hid (And.intro hgr (show xs.length ≤ 9000 by rw [HX.out.2.1]; omega))
    go_wp2_with (fail)
    refine (create_in [120] HD.out (DkOk.new 1048576) (by omega) (by decide) (show ((Dk.new 1048576).create [120]).2 = 0 by kernel_rfl) (show ((Dk.new 1048576).create [120]).1 = Kp.V1 from rfl)).mono ?_
    rintro e w2 ⟨rfl, hd, hs⟩
    have HD2 := Lib.hid hd
    clear hd hs HD
    have HD := HD2
    clear HD2
    go_wp2_with (fail)
    refine (append_in [120] HD.out Kp.V1ok (by omega) (by decide) (HX.out.1.grow HD.out.low) (fun ad e h => .inl (HX.out.2.2 ad e h)) (by omega) (snd_of (Kp.e2 xs [] (by have := HG.out.2; simpa using this))) (fst_of (Kp.e2 xs [] (by have := HG.out.2; simpa using this)))).mono ?_
    rintro e w4 ⟨rfl, hd, hs⟩
    have HD2 := Lib.hid hd
    clear hd hs HD
    have HD := HD2
    clear HD2
    obtain ⟨k, hk⟩ : ∃ k, a % (8 * n0) = k := ⟨_, rfl⟩
    have hk1 : k < 8 * n0 := by rw [← hk]; exact Nat.mod_lt _ (by omega)
    have hwa : IntKind.i64.wrap (a : Int) = a := IntWalk.i64_in _ (by omega)
    have hw8 : IntKind.i64.wrap (8 * (n0 : Int)) = 8 * (n0 : Int) := IntWalk.i64_in _ (by omega)
    have hn8 : ¬ (8 * (n0 : Int) = 0) := by omega
    have htm : ((a : Nat) : Int).tmod (8 * (n0 : Int)) = (k : Int) := by
      rw [Int.tmod_eq_emod_of_nonneg (by omega), ← hk]
      push_cast
      rfl
    have hwk : IntKind.i64.wrap (k : Int) = k := IntWalk.i64_in _ (by omega)
    have HK := Lib.hid (show k < 8 * xs.length by rw [HX.out.2.1]; exact hk1)
    clear hk
    go_wp2_with (fail)
    refine (flip_in [120] (k : Int) z HD.out (V2k xs HG.out.2) (by omega) (by decide) (by omega) hz (Fp.e3 xs k z HK.out)).mono ?_
    rintro e w5 ⟨rfl, hd, hs⟩
    have HD2 := Lib.hid hd
    clear hd hs HD
    have HD := HD2
    clear HD2
    go_wp2_with (fail)
    refine (read_in [120] 0 n0 HD.out (V3k xs k z HG.out.2 HK.out) (by omega) (by decide) (by omega) (by omega) (show (Fp.V3 xs k z).read [120] 0 n0 = (some (X xs k z), 0) by rw [← HX.out.2.1]; exact r3 xs k z)).mono ?_
    rintro e w6 ⟨rfl, hr, hg⟩
    have hlx : (X xs k z).length = n0 := by rw [X_length, HX.out.2.1]
    rw [hlx] at hr
    obtain ⟨g, hgs⟩ : ∃ g, w5.heap.size = g := ⟨_, rfl⟩
    rw [hlx, hgs]
    rw [hgs] at hr
    have HR := Lib.hid (And.intro (show Sl w6 (some ⟨g, 0, none⟩) n0 n0 (X xs k z) from Sl.owned hr) (show DkIn w.heap.size w w6 d (fun k => False ∨ (g ≤ k ∧ k < w6.heap.size)) (Fp.V3 xs k z) from hgs ▸ HD.out.more hg))
    have HGB := Lib.hid (fun ad e hne => HR.out.1.block ad e hne)
    have HXL := Lib.hid hlx
    have HS0 := Lib.hid (HX.out.1.grow HR.out.2.low)
    clear hr hg HD hgs hlx
    go_wp2_with (fail)
    go_loopw [13] (fun vi wr => ∃ i : Nat, i ≤ n0 ∧ vi = .int .i64 (i : Nat) ∧ Hid (Grows w6 wr)) (fun i _ => n0 - (intOf i).toNat)
    case atStart => exact ⟨0, by omega, rfl, Lib.hid (Grows.refl _)⟩
    case round =>
      obtain ⟨i, hi, rfl, HGW⟩ := hrel
      by_cases hlt : i < n0
      · have hi1 : (i : Int) < (n0 : Int) := by omega
        have hi0 : (0 : Int) ≤ (i : Int) := by omega
        obtain ⟨ad, rfl, hb1, hc1⟩ := HS0.out.bytes.spot hlt
        obtain ⟨ad2, he2, hb2, hc2⟩ := HR.out.1.bytes.spot hlt
        injection he2 with he2
        subst he2
        obtain ⟨u, hu⟩ : ∃ u, xs.getD i 0 = u := ⟨_, rfl⟩
        obtain ⟨v, hv⟩ : ∃ v, (X xs k z).getD i 0 = v := ⟨_, rfl⟩
        have hnear : v ≠ u → ¬ 8 * i + 7 < k ∧ ¬ k + 31 < 8 * i := fun h => flip_near (bs := xs) (z := z) hz (by rw [HX.out.2.1]; exact hlt) (by rw [hu]; show (X xs k z).getD i 0 ≠ u; rw [hv]; exact h)
        rw [hu] at hc1
        rw [hv] at hc2
        have HCL := Lib.hid (show ∀ w', Grows wr w' → w'.cell? (ad.add i) = some (.int .u8 (u.toNat : Nat)) ∧ w'.cell? { block := g, off := i } = some (.int .u8 (v.toNat : Nat)) from fun w' hg => ⟨(((HGW.out).trans hg).cell (by rw [add_block]; exact hb1)).trans hc1, (((HGW.out).trans hg).cell (show (⟨g, i, none⟩ : Addr).block < w6.heap.size from hb2)).trans (by
          rw [show (⟨g, 0, none⟩ : Addr).add i = ⟨g, i, none⟩ by unfold Addr.add; split <;> simp_all] at hc2; exact hc2)⟩)
        clear hc1 hc2 hb1 hb2 hu hv
        by_cases huv : v = u
        · subst huv
          generalize v.toNat = p at HCL
          clear hnear
          go_wp2_with (fail)
          refine q_region mixed (by kernel_rfl) ?_
          iterate 10
            (refine q_op' (v := ?_) (a' := ?_) (by rfl) ?_ ?_ ?_
             rotate_left 2
             · intro w' hC
               obtain ⟨z1, z2⟩ := HCL.out w' hC
               clear hC
               go_simp
               try with_reducible rfl
             · simp only [Act.put, List.setIfInBounds_toArray, List.set_cons_zero, List.set_cons_succ]
               try rfl)
          iterate 12
            (refine q_skip' (a' := ?_) (by rfl) ?_ ?_
             rotate_left 1
             · simp only [Act.put, List.setIfInBounds_toArray, List.set_cons_zero, List.set_cons_succ]
               try rfl)
          iterate 1
            (refine q_op' (v := ?_) (a' := ?_) (by rfl) ?_ ?_ ?_
             rotate_left 2
             · intro w' hC
               obtain ⟨z1, z2⟩ := HCL.out w' hC
               clear hC
               go_simp
               try with_reducible rfl
             · simp only [Act.put, List.setIfInBounds_toArray, List.set_cons_zero, List.set_cons_succ]
               try rfl)
          refine wpQuiet_nil ?_
          intro w7 hC
          have HCw7 := Lib.hid hC
          clear hC
          go_wp2_with (fail)
          exact ⟨⟨i + 1, by omega, rfl, Lib.hid (HGW.out.trans HCw7.out)⟩, by simp only [intOf]; omega⟩
        · obtain ⟨hnn1, hnn2⟩ := hnear huv
          have HNE := Lib.hid (show ¬ (v.toNat : Int) = (u.toNat : Int) by
            intro h
            exact huv (UInt8.toNat_inj.1 (by omega)))
          clear hnear huv
          generalize v.toNat = p at HCL HNE
          generalize u.toNat = q at HCL HNE
          have w1 : IntKind.i64.wrap (8 * (i : Int)) = 8 * (i : Int) := IntWalk.i64_in _ (by omega)
          have w2 : IntKind.i64.wrap (8 * (i : Int) + 7) = 8 * (i : Int) + 7 := IntWalk.i64_in _ (by omega)
          have w3 : IntKind.i64.wrap ((k : Int) + 31) = (k : Int) + 31 := IntWalk.i64_in _ (by omega)
          have HND := Lib.hid (show decide (8 * (i : Int) + 7 < (k : Int)) = false ∧ decide ((k : Int) + 31 < 8 * (i : Int)) = false ∧ decide (8 * i + 7 < k) = false ∧ decide (k + 31 < 8 * i) = false from ⟨decide_eq_false (by omega), decide_eq_false (by omega), decide_eq_false (by omega), decide_eq_false (by omega)⟩)
          clear hnn1 hnn2
          go_wp2_with (fail)
          refine q_region mixed (by kernel_rfl) ?_
          iterate 8
            (refine q_op' (v := ?_) (a' := ?_) (by rfl) ?_ ?_ ?_
             rotate_left 2
             · intro w' hC
               obtain ⟨z1, z2⟩ := HCL.out w' hC
               obtain ⟨d1, d2, d3, d4⟩ := HND.out
               clear hC
               go_simp
               try with_reducible rfl
             · simp only [Act.put, List.setIfInBounds_toArray, List.set_cons_zero, List.set_cons_succ]
               try rfl)
          iterate 1
            (refine q_op' (v := .bool true) (a' := ?_) (by rfl) ?_ ?_ ?_
             rotate_left 1
             · intro w' hC
               clear hC
               go_simp
               exact HNE.out
             · simp only [Act.put, List.setIfInBounds_toArray, List.set_cons_zero, List.set_cons_succ]
               try rfl)
          iterate 14
            (refine q_op' (v := ?_) (a' := ?_) (by rfl) ?_ ?_ ?_
             rotate_left 2
             · intro w' hC
               obtain ⟨z1, z2⟩ := HCL.out w' hC
               obtain ⟨d1, d2, d3, d4⟩ := HND.out
               clear hC
               go_simp
               try with_reducible rfl
             · simp only [Act.put, List.setIfInBounds_toArray, List.set_cons_zero, List.set_cons_succ]
               try rfl)
          refine wpQuiet_nil ?_
          intro w7 hC
          have HCw7 := Lib.hid hC
          clear hC
          go_wp2_with (fail)
          exact ⟨⟨i + 1, by omega, rfl, Lib.hid (HGW.out.trans HCw7.out)⟩, by simp only [intOf]; omega⟩
      · obtain rfl : i = n0 := by omega
        have HD := Lib.hid (HR.out.2.grow HGW.out)
        have HRX := Lib.hid (HR.out.1.grow HGW.out)
        clear HR HS0
        go_wp2_with (fail)
        refine (flip_in [120] (k : Int) z HD.out (V3k xs k z HG.out.2 HK.out) (by omega) (by decide) (by omega) hz (Fp.e4 xs k z HK.out)).mono ?_
        rintro e w8 ⟨rfl, hd, hs⟩
        have HD2 := Lib.hid hd
        have HRX2 := Lib.hid (HRX.out.off hs.size fun ad e hne hlt => hs.same _ hlt fun h => h.2 (.inr ⟨by injection e with e; subst e; exact Nat.le_refl _, HGB.out ad e hne⟩))
        clear hd hs HD
        go_wp2_with (fail)
        refine (read_in [120] 0 i HD2.out (V4k xs k z HG.out.2 HK.out) (by omega) (by decide) (by omega) (by omega) (show (Fp.V4 xs k z).read [120] 0 i = (some xs, 0) by rw [← HX.out.2.1]; exact r4 xs k z)).mono ?_
        rintro e w9 ⟨rfl, hr, hg⟩
        rw [HX.out.2.1] at hr
        rw [HX.out.2.1]
        have HY := Lib.hid (And.intro (show Sl w9 (some ⟨w8.heap.size, 0, none⟩) i i xs from Sl.owned hr) (HD2.out.grow hg))
        have HXX := Lib.hid (HRX2.out.grow hg)
        clear hr hg HD2 HRX HRX2
        have hs1 := run_string HY.out.1
        have hs2 := run_string (HX.out.1.grow HY.out.2.low)
        have hs3 := run_string HXX.out
        have HST := Lib.hid (And.intro hs1 (And.intro hs2 hs3))
        by_cases hzo : (z : Int) % 2 = 0
        · go_wp2_with (fail)
          refine (flip_in [120] (8 * (i : Int)) 1 HY.out.2 (V4k xs k z HG.out.2 HK.out) (by omega) (by decide) (by omega) (by omega) (show (Fp.V4 xs k z).flip [120] (8 * (i : Int)) 1 = (Fp.V4 xs k z, false) by
            rw [show (8 * (i : Int)) = ((8 * xs.length : Nat) : Int) by rw [HX.out.2.1]; push_cast; rfl]
            exact Fp.e5 xs k z)).mono ?_
          rintro e w10 ⟨rfl, hd, hs⟩
          have HD3 := Lib.hid hd
          clear hd hs
          go_wp2_with (fail)
          refine (flip_in [122] 0 1 HD3.out (V4k xs k z HG.out.2 HK.out) (by omega) (by decide) (by omega) (by omega) (Fp.e6 xs k z)).mono ?_
          rintro e w11 ⟨rfl, hd, hs⟩
          have HD4 := Lib.hid hd
          clear hd hs
          go_wp2_with (fail)
          go_ret
          exact ⟨rfl, HD4.out.low⟩
        · have hXne : ¬ X xs k z = xs := flip_odd (by omega) HK.out
          go_wp2_with (fail)
          refine (flip_in [120] (8 * (i : Int)) 1 HY.out.2 (V4k xs k z HG.out.2 HK.out) (by omega) (by decide) (by omega) (by omega) (show (Fp.V4 xs k z).flip [120] (8 * (i : Int)) 1 = (Fp.V4 xs k z, false) by
            rw [show (8 * (i : Int)) = ((8 * xs.length : Nat) : Int) by rw [HX.out.2.1]; push_cast; rfl]
            exact Fp.e5 xs k z)).mono ?_
          rintro e w10 ⟨rfl, hd, hs⟩
          have HD3 := Lib.hid hd
          clear hd hs
          go_wp2_with (fail)
          refine (flip_in [122] 0 1 HD3.out (V4k xs k z HG.out.2 HK.out) (by omega) (by decide) (by omega) (by omega) (Fp.e6 xs k z)).mono ?_
          rintro e w11 ⟨rfl, hd, hs⟩
          have HD4 := Lib.hid hd
          clear hd hs
          go_wp2_with (fail)
          go_ret
          have hbb : ((z : Int) % 2 == 0 || !X xs k z == xs) = true := by rw [beq_false_of_ne hXne]; simp
          exact ⟨by show Ending.returned (.bool ((z : Int) % 2 == 0 || !X xs k z == xs)) = _; rw [hbb], HD4.out.low⟩
  · have hgr' : (n0 : Int) > 3000 := by omega
    have hnz' : ((n0 : Int) == 0) = false := by rw [beq_eq_false_iff_ne]; omega
    clear hgr
    go_wp2_with (fail)
    go_ret
    exact ⟨rfl, HD.out.low⟩

set_option maxRecDepth 100000 in
theorem diskFlips_lifted (os : Os) (started : os.Started) (H : Type) (enc : TypeId × Value → H) :
    ReturnsInHanded {} Try.checked os 11 .any (Rows.diskFlipsSpec.pre6 enc Try.prog Try.f11 Rows.diskFlipsRow.domain false) (Rows.diskFlipsSpec.post enc Try.prog Try.f11 false true false false) := by
  refine lift_law (C := Try.checked) H enc own started (by kernel_rfl) Try.func11
    (ChangeSpec.witness6 (enc := enc) (C := Try.checked) false ⟨#[], #[.slice none 0 0, .int .u16 0, .int .u32 0], []⟩ 16 (by kernel_rfl) (by kernel_rfl) (by kernel_rfl) (by kernel_rfl))
    laidOut (of_readable (by kernel_rfl)) rfl Try.underlying4 rfl (fun ds hd => ?_) (fun W base args ds p hval hA hsz => ?_)
  · match ds, hd with
    | [d1, d2, d3], _ => rfl
  · rw [Try.params11] at hA hval hsz
    obtain ⟨v0, vs0, d0, ds0, p0, q0, hargs, rfl, rfl, h0, r0⟩ := trodAll_cons hA
    obtain ⟨v1, vs1, d1, ds1, p1, q1, rfl, rfl, rfl, h1, r1⟩ := trodAll_cons r0
    obtain ⟨v2, vs2, d2, ds2, p2, q2, rfl, rfl, rfl, h2, r2⟩ := trodAll_cons r1
    obtain ⟨rfl, rfl, rfl⟩ := trodAll_nil r2
    obtain rfl : args = #[v0, v1, v2] := by cases args; simp_all
    obtain ⟨A0, n0, c0, xs0, rfl, hx0⟩ := open_bytes Try.underlying23 Try.underlying5 (by kernel_rfl) (by kernel_rfl) (hval 0 23 v0 rfl rfl) h0 hsz (j := 0) rfl rfl
    obtain ⟨a1, rfl, _, _, w1⟩ := open_int Try.underlying35 (hval 1 35 v1 rfl rfl) h1
    have b1 := bounds_u16 w1
    obtain ⟨a2, rfl, _, _, w2⟩ := open_int Try.underlying47 (hval 2 47 v2 rfl rfl) h2
    have b2 := bounds_u32 w2
    exact diskFlips_law W A0 n0 c0 xs0 hx0 a1 (by omega) a2 (by omega)

theorem diskFlips_over : Rows.diskFlipsRow.holds Try.pinned (OpenSpec.ofChange Rows.diskFlipsSpec) :=
  OpenClaim.holds_of_wide 11 Try.f11 rfl rfl rfl rfl rfl rfl rfl ⟨rfl, rfl, rfl, rfl, rfl⟩ rfl rfl rfl rfl rfl (by kernel_rfl) Try.func11 (by kernel_rfl)
    (of_decide_eq_true (by kernel_rfl)) (by unfold Func.isWrapper; first | (rw [if_pos (by decide +kernel)]; kernel_rfl) | (rw [if_neg (by decide +kernel)]; exact ⟨rfl, rfl⟩))
    (fun os started H enc _ => diskFlips_lifted os started H enc)
theorem diskFlips_holds : Rows.DiskFlipsSaid := diskFlips_over
end Go.Proofs.Ytmfhpfehphbklaa
