/-
  Statement DiskFails: just that one thing goes wrong that is to, so many things later, once; then all is as without it. Any two bytes, no condition.
-/
import Derived.Test.YtimkhlonklnddaaDkRun
import Derived.Test.YtimkhlonklnddaaDkHead
import Derived.Test.YtimkhlonklnddaaCame
import Derived.ProofKit
import Derived.ChangeOld
namespace Go.Proofs.Ytimkhlonklnddaa
open Go.ChangeShapes Go.WideShapes Go.ChangeAt Go.RowKit
set_option linter.unusedSimpArgs false
set_option linter.unusedVariables false

namespace Fa
def V1 : Dk := ((Dk.new 1048576).create [97]).1
theorem V1ok : DkOk 1 V1 := (DkOk.new 1048576).create [97]
theorem V1s (F : Nat) : LS (V1.setFail F) false (-1) F 0 0 [] [.made [97] 0] 1 := by
  refine ⟨?_, ?_, ?_, ?_, ?_, ?_, ?_, ?_, ?_, ?_, ?_⟩
  · show V1.down = _; kernel_rfl
  · show V1.cut = _; kernel_rfl
  · show (if (0 : Int) ≤ F then (F : Int) else V1.fail) = _
    rw [if_pos (by omega)]
  · show V1.names = _; kernel_rfl
  · show V1.kept = _; kernel_rfl
  · show V1.pend = _; kernel_rfl
  · show V1.most = _; kernel_rfl
  · show V1.used = _; kernel_rfl
  · show (V1.files 0).bytes.length = _; kernel_rfl
  · show (V1.files 0).kept = _; kernel_rfl
  · show V1.done = _; kernel_rfl
/-- How many were done ahead of the j-th; how many things later one is to fail. -/
def cnt (F j : Nat) : Nat := if j ≤ F then j else j - 1
def fl (F j : Nat) : Int := if j ≤ F then (F : Int) - j else -1
theorem cnt0 (F : Nat) : 0 = cnt F 0 := by unfold cnt; simp
theorem fl0 (F : Nat) : fl F 0 = F := by unfold fl; simp
theorem cntE (F : Nat) : cnt F (F + 1) = cnt F F := by unfold cnt; rw [if_neg (by omega), if_pos (by omega)]; omega
theorem flE (F : Nat) : fl F (F + 1) = -1 := by unfold fl; rw [if_neg (by omega)]
theorem flF (F : Nat) : fl F F = 0 := by unfold fl; rw [if_pos (by omega)]; omega
theorem cntS {F j : Nat} (h : j ≠ F) : cnt F (j + 1) = cnt F j + 1 := by unfold cnt; split <;> split <;> omega
theorem flS {F j : Nat} (h : j ≠ F) : fl F (j + 1) = sooner (fl F j) := by
  unfold fl sooner
  by_cases h1 : j ≤ F
  · rw [if_pos h1, if_pos (by omega), if_pos (by omega)]; omega
  · rw [if_neg h1, if_neg (by omega), if_neg (by omega)]
theorem flN {F j : Nat} (h : j ≠ F) : fl F j ≠ 0 := by unfold fl; split <;> omega
theorem cntL (F j : Nat) : cnt F j ≤ j := by unfold cnt; split <;> omega
end Fa
open Fa
theorem lit_one {w : World} {j : Nat} (hj : j < 256) : Sl (w.alloc (.cells #[.int .u8 (j : Int)] 5)) (some ⟨w.heap.size, 0, none⟩) 1 1 [UInt8.ofNat j] :=
  (Whole.made w 5 #[.int .u8 (j : Int)]).sl [UInt8.ofNat j] (by
    have h : ((UInt8.ofNat j).toNat : Int) = j := by rw [UInt8.toNat_ofNat']; omega
    have h2 : byteV (UInt8.ofNat j) = .int .u8 (j : Int) := by unfold byteV; rw [h]
    rw [List.map_cons, List.map_nil, h2]) rfl

set_option maxHeartbeats 16000000 in
set_option maxRecDepth 100000 in
theorem diskFails_law (w : World) (N0 : Int) (hN0 : 0 ≤ N0 ∧ N0 < 256) (F0 : Int) (hF0 : 0 ≤ F0 ∧ F0 < 256) :
    Calls Try.prog 8 #[.int .u8 N0, .int .u8 F0] w fun e w' => e = .returned (.bool true) ∧ Below w.heap.size w w' := by
  obtain ⟨N, rfl⟩ := Int.eq_ofNat_of_zero_le hN0.1
  obtain ⟨F, rfl⟩ := Int.eq_ofNat_of_zero_le hF0.1
  have hN : N < 256 := by omega
  have hF : F < 256 := by omega
  clear hN0 hF0
  go_enter Try.func8, Try.ntmps8
  go_wp2_with (fail)
  refine (head8_any w).mono ?_
  rintro e w0 ⟨rfl, hb0⟩
  have HB0 := Lib.hid hb0
  clear hb0
  go_wp2_with (fail)
  refine (new_any w0 1048576).mono ?_
  rintro e w1 ⟨d, rfl, hn⟩
  have HD := Lib.hid (show DkIn w.heap.size w w1 d (fun _ => False) (Dk.new 1048576) from DkIn.new hn HB0.out.size HB0.out (fun k h => h.elim))
  clear hn
  go_wp2_with (fail)
  refine (create_in [97] HD.out (DkOk.new 1048576) (by omega) (by decide) (show ((Dk.new 1048576).create [97]).2 = 0 by kernel_rfl) (show ((Dk.new 1048576).create [97]).1 = V1 from rfl)).mono ?_
  rintro e w2 ⟨rfl, hd, hs⟩
  have HD2 := Lib.hid hd
  clear hd hs HD
  have hwF : IntKind.i64.wrap (F : Int) = F := IntWalk.i64_in _ (by omega)
  have hwN : IntKind.i64.wrap (N : Int) = N := IntWalk.i64_in _ (by omega)
  go_wp2_with (fail)
  refine (fail_in F HD2.out).mono ?_
  rintro e w3 ⟨rfl, hd, hs⟩
  have HD := Lib.hid hd
  have HOK := Lib.hid (V1ok.fails F (by omega))
  have HLS := Lib.hid (V1s F)
  clear hd hs HD2
  generalize V1.setFail F = m0 at HD HOK HLS
  go_wp2_with (fail)
  go_loopw [7, 8] (fun vn vi wr => ∃ (j q : Nat) (m : Dk), j ≤ N ∧ q ≤ j ∧ vn = .int .i64 (q : Nat) ∧ vi = .int .i64 (j : Nat) ∧ Hid (q = cnt F j) ∧ Hid (DkIn w.heap.size w wr d (fun _ => False) m) ∧ Hid (LS m false (-1) (fl F j) q 0 [] [.made [97] 0] (q + 1)) ∧ Hid (DkOk (1 + j) m)) (fun _ i _ => N - (intOf i).toNat)
  case atStart => exact ⟨0, 0, m0, by omega, by omega, rfl, rfl, Lib.hid (cnt0 F), HD, Lib.hid (by rw [fl0]; exact HLS.out), HOK⟩
  case round =>
    obtain ⟨j, q, m, hj, hq, rfl, rfl, HQ, HD3, HLS3, HOK3⟩ := hrel
    clear HD HLS HOK
    by_cases hlt : j < N
    · have hlt' : (j : Int) < (N : Int) := by omega
      have hwj : IntKind.u8.wrap (j : Int) = j := IntWalk.u8_in _ (by omega)
      have HL := Lib.hid (And.intro (lit_one (w := wr) (show j < 256 by omega)) (HD3.out.more (grows_alloc wr (.cells #[.int .u8 (j : Int)] 5))))
      by_cases hjF : j = F
      · obtain ⟨m1, he, hls⟩ := (show LS m false (-1) 0 q 0 [] [.made [97] 0] (q + 1) from flF F ▸ hjF ▸ HLS3.out).io (by decide) [UInt8.ofNat j] (by simp only [List.length_singleton]; omega)
        have HM := Lib.hid (And.intro he hls)
        have HQ1 := Lib.hid (show q = cnt F (j + 1) by rw [HQ.out, hjF, cntE])
        have HJF := Lib.hid hjF
        have hbq : ((j : Int) == (F : Int)) = true := by rw [beq_iff_eq]; omega
        clear he hls hjF
        go_wp2_with (fail)
        refine (append_in [97] HL.out.2 HOK3.out (by omega) (by decide) HL.out.1 (fun ad e _ => .inr (.inr (by injection e with e; subst e; exact ⟨Nat.le_refl _, by simp⟩))) (by decide) (snd_of HM.out.1) (fst_of HM.out.1)).mono ?_
        rintro e w5 ⟨rfl, hd, hs⟩
        have HD5 := Lib.hid (hd.less (out' := fun _ => False) (fun k h => h.elim))
        have HOK5 := Lib.hid ((fst_of HM.out.1) ▸ HOK3.out.append [97] [UInt8.ofNat j] : DkOk (1 + j + 1) m1)
        have HLS5 := Lib.hid (show LS m1 false (-1) (fl F (j + 1)) q 0 [] [.made [97] 0] (q + 1) by rw [HJF.out, flE]; exact HM.out.2)
        clear hd hs HL HD3 HLS3 HOK3 HM
        go_wp2_with (fail)
        exact ⟨⟨j + 1, q, m1, by omega, by omega, rfl, rfl, HQ1, HD5, HLS5, Lib.hid (HOK5.out.mono (by omega))⟩, by simp only [intOf]; omega⟩
      · obtain ⟨m1, he, hls⟩ := HLS3.out.done' (by decide) (flN hjF) [UInt8.ofNat j] (by simp only [List.length_singleton]; omega) (by omega)
        have HM := Lib.hid (And.intro he hls)
        have HQ1 := Lib.hid (show q + 1 = cnt F (j + 1) by rw [HQ.out, cntS hjF])
        have HJF := Lib.hid hjF
        have hbq : ((j : Int) == (F : Int)) = false := by rw [beq_eq_false_iff_ne]; omega
        clear he hls hjF
        go_wp2_with (fail)
        refine (append_in [97] HL.out.2 HOK3.out (by omega) (by decide) HL.out.1 (fun ad e _ => .inr (.inr (by injection e with e; subst e; exact ⟨Nat.le_refl _, by simp⟩))) (by decide) (snd_of HM.out.1) (fst_of HM.out.1)).mono ?_
        rintro e w5 ⟨rfl, hd, hs⟩
        have HD5 := Lib.hid (hd.less (out' := fun _ => False) (fun k h => h.elim))
        have HOK5 := Lib.hid ((fst_of HM.out.1) ▸ HOK3.out.append [97] [UInt8.ofNat j] : DkOk (1 + j + 1) m1)
        have HLS5 := Lib.hid (show LS m1 false (-1) (fl F (j + 1)) (q + 1) 0 [] [.made [97] 0] ((q + 1 : Nat) + 1) by rw [flS HJF.out]; exact HM.out.2)
        clear hd hs HL HD3 HLS3 HOK3 HM
        go_wp2_with (fail)
        exact ⟨⟨j + 1, q + 1, m1, by omega, by omega, rfl, rfl, HQ1, HD5, HLS5, Lib.hid (HOK5.out.mono (by omega))⟩, by simp only [intOf]; omega⟩
    · obtain rfl : j = N := by omega
      have hsz := size_in [97] HD3.out (by decide) HLS3.out.size
      have HSZ := Lib.hid hsz
      have hdn := done_in HD3.out
      rw [HLS3.out.done] at hdn
      have HDN := Lib.hid hdn
      clear hsz hdn
      go_wp2_with (fail)
      refine HSZ.out.mono ?_
      rintro e w6 ⟨rfl, rfl⟩
      go_wp2_with (fail)
      refine HDN.out.mono ?_
      rintro e w7 ⟨rfl, rfl⟩
      go_wp2_with (fail)
      go_ret
      exact ⟨rfl, HD3.out.low⟩

set_option maxRecDepth 100000 in
theorem diskFails_lifted (os : Os) (started : os.Started) (H : Type) (enc : TypeId × Value → H) :
    ReturnsInHanded {} Try.checked os 8 .any (Rows.diskFailsSpec.pre6 enc Try.prog Try.f8 Rows.diskFailsRow.domain false) (Rows.diskFailsSpec.post enc Try.prog Try.f8 false true false false) := by
  refine lift_law (C := Try.checked) H enc own started (by kernel_rfl) Try.func8
    (ChangeSpec.witness6 (enc := enc) (C := Try.checked) false ⟨#[], #[.int .u8 0, .int .u8 0], []⟩ 16 (by kernel_rfl) (by kernel_rfl) (by kernel_rfl) (by kernel_rfl))
    laidOut (of_readable (by kernel_rfl)) rfl Try.underlying4 rfl (fun ds hd => ?_) (fun W base args ds p hval hA hsz => ?_)
  · match ds, hd with
    | [d1, d2], _ => rfl
  · rw [Try.params8] at hA hval hsz
    obtain ⟨v0, vs0, d0, ds0, p0, q0, hargs, rfl, rfl, h0, r0⟩ := trodAll_cons hA
    obtain ⟨v1, vs1, d1, ds1, p1, q1, rfl, rfl, rfl, h1, r1⟩ := trodAll_cons r0
    obtain ⟨rfl, rfl, rfl⟩ := trodAll_nil r1
    obtain rfl : args = #[v0, v1] := by cases args; simp_all
    obtain ⟨a0, rfl, _, _, w0⟩ := open_int Try.underlying5 (hval 0 5 v0 rfl rfl) h0
    have b0 := bounds_u8 w0
    obtain ⟨a1, rfl, _, _, w1⟩ := open_int Try.underlying5 (hval 1 5 v1 rfl rfl) h1
    have b1 := bounds_u8 w1
    exact diskFails_law W a0 (by omega) a1 (by omega)

theorem diskFails_over : Rows.diskFailsRow.holds Try.pinned (OpenSpec.ofChange Rows.diskFailsSpec) :=
  OpenClaim.holds_of_wide 8 Try.f8 rfl rfl rfl rfl rfl rfl rfl ⟨rfl, rfl, rfl, rfl, rfl⟩ rfl rfl rfl rfl rfl (by kernel_rfl) Try.func8 (by kernel_rfl)
    (of_decide_eq_true (by kernel_rfl)) (by unfold Func.isWrapper; first | (rw [if_pos (by decide +kernel)]; kernel_rfl) | (rw [if_neg (by decide +kernel)]; exact ⟨rfl, rfl⟩))
    (fun os started H enc _ => diskFails_lifted os started H enc)
theorem diskFails_holds : Rows.DiskFailsSaid := diskFails_over
end Go.Proofs.Ytimkhlonklnddaa
