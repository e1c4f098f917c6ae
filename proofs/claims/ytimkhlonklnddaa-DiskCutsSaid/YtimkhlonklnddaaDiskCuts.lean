/-
  Statement DiskCuts: power fails at just the thing that it is to; what was synced ahead of it is there behind a Boot, what was not is not. Any two bytes and any choice, no condition.
-/
import Derived.Test.YtimkhlonklnddaaDkRun
import Derived.Test.YtimkhlonklnddaaDkHead
import Derived.Test.YtimkhlonklnddaaCame
import Derived.ProofKit
import Derived.ChangeOld
namespace Go.Proofs.Ytimkhlonklnddaa
open Go.ChangeShapes Go.WideShapes Go.ChangeAt Go.RowKit
set_option linter.unusedSimpArgs false
set_option linter.unusedVariables false

namespace Cu
def V1 : Dk := ((Dk.new 1048576).create [97]).1
theorem V1ok : DkOk 1 V1 := (DkOk.new 1048576).create [97]
def V2 : Dk := V1.syncDir.1
theorem V2ok : DkOk 1 V2 := V1ok.syncDir
theorem V2s (F : Nat) : LS (V2.setCut F) false F (-1) 0 0 [([97], 0)] [] 2 := by
  refine ⟨?_, ?_, ?_, ?_, ?_, ?_, ?_, ?_, ?_, ?_, ?_⟩
  · show V2.down = _; kernel_rfl
  · show (if (0 : Int) ≤ F then (F : Int) else V2.cut) = _
    rw [if_pos (by omega)]
  · show V2.fail = _; kernel_rfl
  · show V2.names = _; kernel_rfl
  · show V2.kept = _; kernel_rfl
  · show V2.pend = _; kernel_rfl
  · show V2.most = _; kernel_rfl
  · show V2.used = _; kernel_rfl
  · show (V2.files 0).bytes.length = _; kernel_rfl
  · show (V2.files 0).kept = _; kernel_rfl
  · show V2.done = _; kernel_rfl
def CS (F j q : Nat) (m : Dk) : Prop := (j ≤ F ∧ q = j ∧ LS m false ((F : Int) - j) (-1) q 0 [([97], 0)] [] (q + 2)) ∨ (F < j ∧ q = F ∧ LS m true (-1) (-1) q 0 [([97], 0)] [] (q + 2))
end Cu
open Cu
theorem Ints.none (w : World) : Ints w none 0 0 [] := ⟨Row.nil _ _ _, Nat.le_refl _, fun _ => rfl⟩
theorem lit_one8 {w : World} {j : Nat} (hj : j < 256) : Sl (w.alloc (.cells #[.int .u8 (j : Int)] 5)) (some ⟨w.heap.size, 0, none⟩) 1 1 [UInt8.ofNat j] :=
  (Whole.made w 5 #[.int .u8 (j : Int)]).sl [UInt8.ofNat j] (by
    have h : ((UInt8.ofNat j).toNat : Int) = j := by rw [UInt8.toNat_ofNat']; omega
    have h2 : byteV (UInt8.ofNat j) = .int .u8 (j : Int) := by unfold byteV; rw [h]
    rw [List.map_cons, List.map_nil, h2]) rfl

set_option maxHeartbeats 16000000 in
set_option maxRecDepth 100000 in
theorem diskCuts_law (w : World) (N0 : Int) (hN0 : 0 ≤ N0 ∧ N0 < 256) (F0 : Int) (hF0 : 0 ≤ F0 ∧ F0 < 256) (s : Bool) :
    Calls Try.prog 9 #[.int .u8 N0, .int .u8 F0, .bool s] w fun e w' => e = .returned (.bool true) ∧ Below w.heap.size w w' := by
  obtain ⟨N, rfl⟩ := Int.eq_ofNat_of_zero_le hN0.1
  obtain ⟨F, rfl⟩ := Int.eq_ofNat_of_zero_le hF0.1
  have hN : N < 256 := by omega
  have hF : F < 256 := by omega
  clear hN0 hF0
  go_enter Try.func9, Try.ntmps9
  go_wp2_with (fail)
  refine (head8_any w).mono ?_
  rintro e w0 ⟨rfl, hb0⟩
  have HB0 := Lib.hid hb0
  clear hb0
  go_wp2_with (fail)
  refine (new_any w0 1048576).mono ?_
  rintro e w1 ⟨d, rfl, hn⟩
  have HD := Lib.hid (show DkIn w.heap.size w w1 d (fun _ => False) (Dk.new 1048576) from DkIn.new hn HB0.out.size HB0.out (fun k h => h.elim))
  clear hn
  go_wp2_with (fail)
  refine (create_in [97] HD.out (DkOk.new 1048576) (by omega) (by decide) (show ((Dk.new 1048576).create [97]).2 = 0 by kernel_rfl) (show ((Dk.new 1048576).create [97]).1 = V1 from rfl)).mono ?_
  rintro e w2 ⟨rfl, hd, hs⟩
  have HD2 := Lib.hid hd
  clear hd hs HD
  go_wp2_with (fail)
  refine (syncDir_in HD2.out V1ok (by omega) (show V1.syncDir.2 = 0 by kernel_rfl) (show V1.syncDir.1 = V2 from rfl)).mono ?_
  rintro e w2b ⟨rfl, hd, hs⟩
  have HD2b := Lib.hid hd
  clear hd hs HD2
  have hwF : IntKind.i64.wrap (F : Int) = F := IntWalk.i64_in _ (by omega)
  have hwN : IntKind.i64.wrap (N : Int) = N := IntWalk.i64_in _ (by omega)
  go_wp2_with (fail)
  refine (cut_in F HD2b.out).mono ?_
  rintro e w3 ⟨rfl, hd, hs⟩
  have HD := Lib.hid hd
  have HOK := Lib.hid (V2ok.cuts F (by omega))
  have HLS := Lib.hid (V2s F)
  clear hd hs HD2b
  generalize V2.setCut F = m0 at HD HOK HLS
  go_wp2_with (fail)
  go_loopw [9, 10] (fun vn vi wr => ∃ (j q : Nat) (m : Dk), j ≤ N ∧ q ≤ j ∧ q ≤ F ∧ vn = .int .i64 (q : Nat) ∧ vi = .int .i64 (j : Nat) ∧ Hid (CS F j q m) ∧ Hid (DkIn w.heap.size w wr d (fun _ => False) m) ∧ Hid (DkOk (1 + j) m)) (fun _ i _ => N - (intOf i).toNat)
  case atStart => exact ⟨0, 0, m0, by omega, by omega, by omega, rfl, rfl, Lib.hid (.inl ⟨by omega, rfl, by simpa using HLS.out⟩), HD, HOK⟩
  case round =>
    obtain ⟨j, q, m, hj, hq, hqF, rfl, rfl, HCS, HD3, HOK3⟩ := hrel
    clear HD HLS HOK
    by_cases hlt : j < N
    · have hlt' : (j : Int) < (N : Int) := by omega
      have hwj : IntKind.u8.wrap (j : Int) = j := IntWalk.u8_in _ (by omega)
      have HL := Lib.hid (And.intro (lit_one8 (w := wr) (show j < 256 by omega)) (HD3.out.more (grows_alloc wr (.cells #[.int .u8 (j : Int)] 5))))
      by_cases hjF : j < F
      · have hls0 : q = j ∧ LS m false ((F : Int) - j) (-1) q 0 [([97], 0)] [] (q + 2) := by
          rcases HCS.out with h | h
          · exact h.2
          · have := h.1; omega
        obtain ⟨rfl, hls0⟩ := hls0
        obtain ⟨m1, he, hls⟩ := hls0.done' (by omega) (by decide) [UInt8.ofNat q] (by simp only [List.length_singleton]; omega) (by omega)
        have HM := Lib.hid (And.intro he (show LS m1 false ((F : Int) - (q + 1 : Nat)) (-1) (q + 1) 0 [([97], 0)] [] ((q + 1 : Nat) + 2) by
          have h1 : sooner ((F : Int) - q) = (F : Int) - (q + 1 : Nat) := by unfold sooner; rw [if_pos (by omega)]; omega
          have h2 : ((q : Int) + 2 + 1) = ((q + 1 : Nat) : Int) + 2 := by omega
          rw [h1, h2] at hls
          exact hls))
        have hge : decide ((q : Int) ≥ (F : Int)) = false := by simp; omega
        have HJF := Lib.hid hjF
        clear he hls hjF hls0
        go_wp2_with (fail)
        refine (append_in [97] HL.out.2 HOK3.out (by omega) (by decide) HL.out.1 (fun ad e _ => .inr (.inr (by injection e with e; subst e; exact ⟨Nat.le_refl _, by simp⟩))) (by decide) (snd_of HM.out.1) (fst_of HM.out.1)).mono ?_
        rintro e w5 ⟨rfl, hd, hs⟩
        have HD5 := Lib.hid (hd.less (out' := fun _ => False) (fun k h => h.elim))
        have HOK5 := Lib.hid ((fst_of HM.out.1) ▸ HOK3.out.append [97] [UInt8.ofNat q] : DkOk (1 + q + 1) m1)
        have HCS5 := Lib.hid (show CS F (q + 1) (q + 1) m1 from .inl ⟨by have := HJF.out; omega, rfl, HM.out.2⟩)
        clear hd hs HL HD3 HCS HOK3 HM
        go_wp2_with (fail)
        exact ⟨⟨q + 1, (q + 1), m1, by omega, by omega, by omega, rfl, rfl, HCS5, HD5, Lib.hid (HOK5.out.mono (by omega))⟩, by simp only [intOf]; omega⟩
      · by_cases hjE : j = F
        · have hls0 : q = j ∧ LS m false ((F : Int) - j) (-1) q 0 [([97], 0)] [] (q + 2) := by
            rcases HCS.out with h | h
            · exact h.2
            · have := h.1; omega
          obtain ⟨rfl, hls0⟩ := hls0
          have hls1 : LS m false 0 (-1) q 0 [([97], 0)] [] (q + 2) := by
            rw [show (F : Int) - q = 0 by omega] at hls0; exact hls0
          obtain ⟨m1, he, hls⟩ := hls1.cuts [UInt8.ofNat q] (by simp only [List.length_singleton]; omega)
          have HM := Lib.hid (And.intro he (show LS m1 true (-1) (-1) q 0 [([97], 0)] [] (q + 2) from hls))
          have hge : F ≤ q := by omega
          have HJF := Lib.hid hjE
          clear he hls hjF hls0 hjE hls1
          go_wp2_with (fail)
          refine (append_in [97] HL.out.2 HOK3.out (by omega) (by decide) HL.out.1 (fun ad e _ => .inr (.inr (by injection e with e; subst e; exact ⟨Nat.le_refl _, by simp⟩))) (by decide) (snd_of HM.out.1) (fst_of HM.out.1)).mono ?_
          rintro e w5 ⟨rfl, hd, hs⟩
          have HD5 := Lib.hid (hd.less (out' := fun _ => False) (fun k h => h.elim))
          have HOK5 := Lib.hid ((fst_of HM.out.1) ▸ HOK3.out.append [97] [UInt8.ofNat q] : DkOk (1 + q + 1) m1)
          have HCS5 := Lib.hid (show CS F (q + 1) q m1 from .inr ⟨by have := HJF.out; omega, HJF.out, HM.out.2⟩)
          clear hd hs HL HD3 HCS HOK3 HM
          go_wp2_with (fail)
          exact ⟨⟨q + 1, q, m1, by omega, by omega, by omega, rfl, rfl, HCS5, HD5, Lib.hid (HOK5.out.mono (by omega))⟩, by simp only [intOf]; omega⟩
        · have hls0 : q = F ∧ LS m true (-1) (-1) q 0 [([97], 0)] [] (q + 2) := by
            rcases HCS.out with h | h
            · have := h.1; omega
            · exact h.2
          have hlsq := hls0.2.off [UInt8.ofNat j]
          have HM := Lib.hid (And.intro hlsq hls0)
          have hge : F ≤ j := by omega
          have HJF := Lib.hid (show F < j by omega)
          clear hlsq hls0 hjF hjE
          go_wp2_with (fail)
          refine (append_in [97] HL.out.2 HOK3.out (by omega) (by decide) HL.out.1 (fun ad e _ => .inr (.inr (by injection e with e; subst e; exact ⟨Nat.le_refl _, by simp⟩))) (by decide) (snd_of HM.out.1) (fst_of HM.out.1)).mono ?_
          rintro e w5 ⟨rfl, hd, hs⟩
          have HD5 := Lib.hid (hd.less (out' := fun _ => False) (fun k h => h.elim))
          have HOK5 := Lib.hid ((fst_of HM.out.1) ▸ HOK3.out.append [97] [UInt8.ofNat j] : DkOk (1 + j + 1) m)
          have HCS5 := Lib.hid (show CS F (j + 1) q m from .inr ⟨by have := HJF.out; omega, HM.out.2.1, HM.out.2.2⟩)
          clear hd hs HL HD3 HCS HOK3 HM
          go_wp2_with (fail)
          exact ⟨⟨j + 1, q, m, by omega, by omega, by omega, rfl, rfl, HCS5, HD5, Lib.hid (HOK5.out.mono (by omega))⟩, by simp only [intOf]; omega⟩
    · obtain rfl : j = N := by omega
      have hdn := down_in HD3.out
      by_cases hNF : j ≤ F
      · have hls0 : q = j ∧ LS m false ((F : Int) - j) (-1) q 0 [([97], 0)] [] (q + 2) := by
          rcases HCS.out with h | h
          · exact h.2
          · have := h.1; omega
        obtain ⟨rfl, hls0⟩ := hls0
        rw [hls0.down] at hdn
        have HDN := Lib.hid hdn
        have HLS := Lib.hid hls0
        have hgt : decide ((q : Int) > (F : Int)) = false := by simp; omega
        clear hdn hls0
        go_wp2_with (fail)
        refine HDN.out.mono ?_
        rintro e w4 ⟨rfl, rfl⟩
        cases s with
        | false =>
          have HB := Lib.hid (And.intro HD3.out (And.intro (HOK3.out.mono (show 1 + q ≤ 1000 by omega)) HLS.out))
          go_wp2_with (fail)
          refine (boot_in 0 HB.out.1 HB.out.2.1 (by omega) (Ints.none _) (by intro x hx; cases hx) (fun ad e => by cases e)).mono ?_
          rintro e w8 ⟨rfl, hd, hs⟩
          have HB2 := Lib.hid (show DkIn w.heap.size w w8 d (fun _ => False) _ ∧ DkOk 1000 _ ∧ LS _ false (-1) (-1) 0 0 [([97], 0)] [] _ from ⟨hd, HB.out.2.1.boot 0 [], HB.out.2.2.boot (by omega) (by omega)⟩)
          clear hd hs
          have hsz := size_in [97] HB2.out.1 (by decide) HB2.out.2.2.size
          have HSZ := Lib.hid hsz
          clear hsz
          go_wp2_with (fail)
          refine HSZ.out.mono ?_
          rintro e w9 ⟨rfl, rfl⟩
          have hdn := down_in HB2.out.1
          rw [HB2.out.2.2.down] at hdn
          have HDN2 := Lib.hid hdn
          clear hdn
          go_wp2_with (fail)
          refine HDN2.out.mono ?_
          rintro e w10 ⟨rfl, rfl⟩
          obtain ⟨m9, he, hls⟩ := HB2.out.2.2.done' (by decide) (by decide) [] (by simp only [List.length_nil]; omega) (by omega)
          have HM9 := Lib.hid (And.intro he hls)
          clear he hls
          go_wp2_with (fail)
          refine (append_in [97] HB2.out.1 HB2.out.2.1 (by omega) (by decide) (Sl.nil _) (fun ad e => by cases e) (by decide) (snd_of HM9.out.1) (fst_of HM9.out.1)).mono ?_
          rintro e w11 ⟨rfl, hd, hs⟩
          have HZ := Lib.hid hd
          clear hd hs
          go_wp2_with (fail)
          go_ret
          exact ⟨rfl, HZ.out.low⟩
        | true =>
          by_cases hNL : q < F
          · have hlt2 : decide ((q : Int) < (F : Int)) = true := by simp; omega
            go_wp2_with (fail)
            refine HDN.out.mono ?_
            rintro e w5 ⟨rfl, rfl⟩
            obtain ⟨m1, he, hls⟩ := HLS.out.sync (by omega) (by decide) (by omega)
            have HM := Lib.hid (And.intro he hls)
            clear he hls
            go_wp2_with (fail)
            refine (sync_in [97] HD3.out HOK3.out (by omega) (by decide) (snd_of HM.out.1) (fst_of HM.out.1)).mono ?_
            rintro e w6 ⟨rfl, hd, hs⟩
            have HB := Lib.hid (And.intro hd (And.intro (((fst_of HM.out.1) ▸ HOK3.out.sync [97] : DkOk (1 + q) m1).mono (show 1 + q ≤ 1000 by omega)) HM.out.2))
            clear hd hs
            go_wp2_with (fail)
            refine (boot_in 0 HB.out.1 HB.out.2.1 (by omega) (Ints.none _) (by intro x hx; cases hx) (fun ad e => by cases e)).mono ?_
            rintro e w8 ⟨rfl, hd, hs⟩
            have HB2 := Lib.hid (show DkIn w.heap.size w w8 d (fun _ => False) _ ∧ DkOk 1000 _ ∧ LS _ false (-1) (-1) q q [([97], 0)] [] _ from ⟨hd, HB.out.2.1.boot 0 [], HB.out.2.2.boot (by omega) (by omega)⟩)
            clear hd hs
            have hsz := size_in [97] HB2.out.1 (by decide) HB2.out.2.2.size
            have HSZ := Lib.hid hsz
            clear hsz
            go_wp2_with (fail)
            refine HSZ.out.mono ?_
            rintro e w9 ⟨rfl, rfl⟩
            have hdn := down_in HB2.out.1
            rw [HB2.out.2.2.down] at hdn
            have HDN2 := Lib.hid hdn
            clear hdn
            go_wp2_with (fail)
            refine HDN2.out.mono ?_
            rintro e w10 ⟨rfl, rfl⟩
            obtain ⟨m9, he, hls⟩ := HB2.out.2.2.done' (by decide) (by decide) [] (by simp only [List.length_nil]; omega) (by omega)
            have HM9 := Lib.hid (And.intro he hls)
            clear he hls
            go_wp2_with (fail)
            refine (append_in [97] HB2.out.1 HB2.out.2.1 (by omega) (by decide) (Sl.nil _) (fun ad e => by cases e) (by decide) (snd_of HM9.out.1) (fst_of HM9.out.1)).mono ?_
            rintro e w11 ⟨rfl, hd, hs⟩
            have HZ := Lib.hid hd
            clear hd hs
            go_wp2_with (fail)
            go_ret
            exact ⟨rfl, HZ.out.low⟩
          · have hlt2 : decide ((q : Int) < (F : Int)) = false := by simp; omega
            go_wp2_with (fail)
            refine HDN.out.mono ?_
            rintro e w5 ⟨rfl, rfl⟩
            have HB := Lib.hid (And.intro HD3.out (And.intro (HOK3.out.mono (show 1 + q ≤ 1000 by omega)) HLS.out))
            go_wp2_with (fail)
            refine (boot_in 0 HB.out.1 HB.out.2.1 (by omega) (Ints.none _) (by intro x hx; cases hx) (fun ad e => by cases e)).mono ?_
            rintro e w8 ⟨rfl, hd, hs⟩
            have HB2 := Lib.hid (show DkIn w.heap.size w w8 d (fun _ => False) _ ∧ DkOk 1000 _ ∧ LS _ false (-1) (-1) 0 0 [([97], 0)] [] _ from ⟨hd, HB.out.2.1.boot 0 [], HB.out.2.2.boot (by omega) (by omega)⟩)
            clear hd hs
            have hsz := size_in [97] HB2.out.1 (by decide) HB2.out.2.2.size
            have HSZ := Lib.hid hsz
            clear hsz
            go_wp2_with (fail)
            refine HSZ.out.mono ?_
            rintro e w9 ⟨rfl, rfl⟩
            have hdn := down_in HB2.out.1
            rw [HB2.out.2.2.down] at hdn
            have HDN2 := Lib.hid hdn
            clear hdn
            go_wp2_with (fail)
            refine HDN2.out.mono ?_
            rintro e w10 ⟨rfl, rfl⟩
            obtain ⟨m9, he, hls⟩ := HB2.out.2.2.done' (by decide) (by decide) [] (by simp only [List.length_nil]; omega) (by omega)
            have HM9 := Lib.hid (And.intro he hls)
            clear he hls
            go_wp2_with (fail)
            refine (append_in [97] HB2.out.1 HB2.out.2.1 (by omega) (by decide) (Sl.nil _) (fun ad e => by cases e) (by decide) (snd_of HM9.out.1) (fst_of HM9.out.1)).mono ?_
            rintro e w11 ⟨rfl, hd, hs⟩
            have HZ := Lib.hid hd
            clear hd hs
            go_wp2_with (fail)
            go_ret
            exact ⟨rfl, HZ.out.low⟩
      · have hls0 : q = F ∧ LS m true (-1) (-1) q 0 [([97], 0)] [] (q + 2) := by
          rcases HCS.out with h | h
          · have := h.1; omega
          · exact h.2
        have hqe := hls0.1
        have hls0 := hls0.2
        rw [hls0.down] at hdn
        have HDN := Lib.hid hdn
        have HLS := Lib.hid hls0
        have hgt : F < j := by omega
        have hlt2 : decide ((j : Int) < (F : Int)) = false := by simp; omega
        clear hdn hls0
        have HQE := Lib.hid hqe
        clear hqe
        have HB := Lib.hid (And.intro HD3.out (And.intro (HOK3.out.mono (show 1 + j ≤ 1000 by omega)) HLS.out))
        go_wp2_with (fail)
        refine HDN.out.mono ?_
        rintro e w4 ⟨rfl, rfl⟩
        cases s with
        | false =>
          go_wp2_with (fail)
          refine (boot_in 0 HB.out.1 HB.out.2.1 (by omega) (Ints.none _) (by intro x hx; cases hx) (fun ad e => by cases e)).mono ?_
          rintro e w8 ⟨rfl, hd, hs⟩
          have HB2 := Lib.hid (show DkIn w.heap.size w w8 d (fun _ => False) _ ∧ DkOk 1000 _ ∧ LS _ false (-1) (-1) 0 0 [([97], 0)] [] _ from ⟨hd, HB.out.2.1.boot 0 [], HB.out.2.2.boot (by omega) (by omega)⟩)
          clear hd hs
          have hsz := size_in [97] HB2.out.1 (by decide) HB2.out.2.2.size
          have HSZ := Lib.hid hsz
          clear hsz
          go_wp2_with (fail)
          refine HSZ.out.mono ?_
          rintro e w9 ⟨rfl, rfl⟩
          have hdn := down_in HB2.out.1
          rw [HB2.out.2.2.down] at hdn
          have HDN2 := Lib.hid hdn
          clear hdn
          go_wp2_with (fail)
          refine HDN2.out.mono ?_
          rintro e w10 ⟨rfl, rfl⟩
          obtain ⟨m9, he, hls⟩ := HB2.out.2.2.done' (by decide) (by decide) [] (by simp only [List.length_nil]; omega) (by omega)
          have HM9 := Lib.hid (And.intro he hls)
          clear he hls
          go_wp2_with (fail)
          refine (append_in [97] HB2.out.1 HB2.out.2.1 (by omega) (by decide) (Sl.nil _) (fun ad e => by cases e) (by decide) (snd_of HM9.out.1) (fst_of HM9.out.1)).mono ?_
          rintro e w11 ⟨rfl, hd, hs⟩
          have HZ := Lib.hid hd
          clear hd hs
          go_wp2_with (fail)
          go_ret
          exact ⟨rfl, HZ.out.low⟩
        | true =>
          go_wp2_with (fail)
          refine HDN.out.mono ?_
          rintro e w5 ⟨rfl, rfl⟩
          go_wp2_with (fail)
          refine (boot_in 0 HB.out.1 HB.out.2.1 (by omega) (Ints.none _) (by intro x hx; cases hx) (fun ad e => by cases e)).mono ?_
          rintro e w8 ⟨rfl, hd, hs⟩
          have HB2 := Lib.hid (show DkIn w.heap.size w w8 d (fun _ => False) _ ∧ DkOk 1000 _ ∧ LS _ false (-1) (-1) 0 0 [([97], 0)] [] _ from ⟨hd, HB.out.2.1.boot 0 [], HB.out.2.2.boot (by omega) (by omega)⟩)
          clear hd hs
          have hsz := size_in [97] HB2.out.1 (by decide) HB2.out.2.2.size
          have HSZ := Lib.hid hsz
          clear hsz
          go_wp2_with (fail)
          refine HSZ.out.mono ?_
          rintro e w9 ⟨rfl, rfl⟩
          have hdn := down_in HB2.out.1
          rw [HB2.out.2.2.down] at hdn
          have HDN2 := Lib.hid hdn
          clear hdn
          go_wp2_with (fail)
          refine HDN2.out.mono ?_
          rintro e w10 ⟨rfl, rfl⟩
          obtain ⟨m9, he, hls⟩ := HB2.out.2.2.done' (by decide) (by decide) [] (by simp only [List.length_nil]; omega) (by omega)
          have HM9 := Lib.hid (And.intro he hls)
          clear he hls
          go_wp2_with (fail)
          refine (append_in [97] HB2.out.1 HB2.out.2.1 (by omega) (by decide) (Sl.nil _) (fun ad e => by cases e) (by decide) (snd_of HM9.out.1) (fst_of HM9.out.1)).mono ?_
          rintro e w11 ⟨rfl, hd, hs⟩
          have HZ := Lib.hid hd
          clear hd hs
          go_wp2_with (fail)
          go_ret
          exact ⟨rfl, HZ.out.low⟩

set_option maxRecDepth 100000 in
theorem diskCuts_lifted (os : Os) (started : os.Started) (H : Type) (enc : TypeId × Value → H) :
    ReturnsInHanded {} Try.checked os 9 .any (Rows.diskCutsSpec.pre6 enc Try.prog Try.f9 Rows.diskCutsRow.domain false) (Rows.diskCutsSpec.post enc Try.prog Try.f9 false true false false) := by
  refine lift_law (C := Try.checked) H enc own started (by kernel_rfl) Try.func9
    (ChangeSpec.witness6 (enc := enc) (C := Try.checked) false ⟨#[], #[.int .u8 0, .int .u8 0, .bool false], []⟩ 16 (by kernel_rfl) (by kernel_rfl) (by kernel_rfl) (by kernel_rfl))
    laidOut (of_readable (by kernel_rfl)) rfl Try.underlying4 rfl (fun ds hd => ?_) (fun W base args ds p hval hA hsz => ?_)
  · match ds, hd with
    | [d1, d2, d3], _ => rfl
  · rw [Try.params9] at hA hval hsz
    obtain ⟨v0, vs0, d0, ds0, p0, q0, hargs, rfl, rfl, h0, r0⟩ := trodAll_cons hA
    obtain ⟨v1, vs1, d1, ds1, p1, q1, rfl, rfl, rfl, h1, r1⟩ := trodAll_cons r0
    obtain ⟨v2, vs2, d2, ds2, p2, q2, rfl, rfl, rfl, h2, r2⟩ := trodAll_cons r1
    obtain ⟨rfl, rfl, rfl⟩ := trodAll_nil r2
    obtain rfl : args = #[v0, v1, v2] := by cases args; simp_all
    obtain ⟨a0, rfl, _, _, w0⟩ := open_int Try.underlying5 (hval 0 5 v0 rfl rfl) h0
    have b0 := bounds_u8 w0
    obtain ⟨a1, rfl, _, _, w1⟩ := open_int Try.underlying5 (hval 1 5 v1 rfl rfl) h1
    have b1 := bounds_u8 w1
    obtain ⟨a2, rfl, _, _⟩ := open_bool Try.underlying4 (hval 2 4 v2 rfl rfl) h2
    exact diskCuts_law W a0 (by omega) a1 (by omega) a2

theorem diskCuts_over : Rows.diskCutsRow.holds Try.pinned (OpenSpec.ofChange Rows.diskCutsSpec) :=
  OpenClaim.holds_of_wide 9 Try.f9 rfl rfl rfl rfl rfl rfl rfl ⟨rfl, rfl, rfl, rfl, rfl⟩ rfl rfl rfl rfl rfl (by kernel_rfl) Try.func9 (by kernel_rfl)
    (of_decide_eq_true (by kernel_rfl)) (by unfold Func.isWrapper; first | (rw [if_pos (by decide +kernel)]; kernel_rfl) | (rw [if_neg (by decide +kernel)]; exact ⟨rfl, rfl⟩))
    (fun os started H enc _ => diskCuts_lifted os started H enc)
theorem diskCuts_holds : Rows.DiskCutsSaid := diskCuts_over
end Go.Proofs.Ytimkhlonklnddaa
