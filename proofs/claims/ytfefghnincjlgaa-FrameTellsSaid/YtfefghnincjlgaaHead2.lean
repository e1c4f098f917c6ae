/-
  The walk of souterrainlaw02.head: it is true, and writes nothing that was there.
-/
import Derived.Test.YtfefghnincjlgaaCodec
import Derived.Test.YtfefghnincjlgaaSteps
namespace Go.Proofs.Ytfefghnincjlgaa
open Go.RowKit

def abcF : List UInt8 := [0, 3, 255, 252, 97, 98, 99, 162, 50, 228, 51]
theorem abc_put : putB [97, 98, 99] = abcF := by decide +kernel
theorem abc_first : firstB (abcF ++ [9]) = ([97, 98, 99], 11, 0) := by decide +kernel
theorem abc_cut : firstB (abcF.take 10) = ([], 0, 21) := by decide +kernel
theorem abc_bad : firstB [0, 3, 255, 253, 1] = ([], 0, 22) := by decide +kernel
theorem abc_turned : firstB (abcF.set 5 66) = ([], 11, 22) := by decide +kernel
theorem none_put : putB [] = [] := by decide +kernel

set_option maxRecDepth 100000 in
set_option maxHeartbeats 4000000 in
theorem head2_any (w : World) :
    Calls Try.prog 9 #[] w fun e w' => e = .returned (.bool true) ∧ Below w.heap.size w w' := by
  obtain ⟨i0, hi, hz0, hz1, hz2⟩ := info_parts infoU8
  have HI := Lib.hid hi
  have HZ := Lib.hid (And.intro hz0 (And.intro hz1 hz2))
  clear hi hz0 hz1 hz2
  have hm1 := Whole.made w 5 #[.int .u8 97, .int .u8 98, .int .u8 99]
  obtain ⟨w1, hrun1, hheld1, hbel1, _⟩ := conv_mark (n := 3) (c := 3) hm1
  have hg1 : Grows w w1 := Below.trans ((Below.refl _ _).alloc (Nat.le_refl _) _) hbel1
  have HG1 := Lib.hid hg1
  have HS1 := Lib.hid (hheld1.sl [97, 98, 99] rfl rfl)
  clear hm1 hheld1 hbel1 hg1
  go_enter Try.func9, Try.ntmps9
  go_wp2_with (fail)
  refine (put_any _ 3 3 _ w1 HS1.out (by unfold maxLen; omega)).mono ?_
  rintro e w2 ⟨A2, m2, c2, rfl, hs2, hb2⟩
  rw [abc_put] at hs2
  have hl2 := hs2.len
  change 11 = m2 at hl2
  subst hl2
  have HS2 := Lib.hid hs2
  have HG2 := Lib.hid (Grows.trans HG1.out hb2)
  clear hs2 hb2 hrun1 HS1 HG1
  clear HI HZ i0
  go_wp2_with (first
    | (at_builtin
       refine list_append_sl rfl (.tmp 22) (.tmp 23) rfl rfl (owned_none w2) (A := A2) (m := 11) (c := c2) rfl (HS2.out.alloc _) 11 rfl abcF rfl (by omega) (le_alloc _ _) ?_
       intro A3 c3 w3 hown3 hb3
       have HOWN3 := Lib.hid hown3
       have HB3 := Lib.hid (Below.trans ((Below.refl _ w2).alloc (Nat.le_refl _) _) hb3)
       clear hown3 hb3)
    | (at_builtin
       refine list_append_sl rfl (.tmp 24) (.tmp 25) rfl rfl (owned_grow HOWN3.out (grows_alloc _ _)) (A := some ⟨w3.heap.size, 0, none⟩) (m := 1) (c := 1) rfl ((Whole.made w3 5 #[.int .u8 9]).sl [9] rfl rfl) 12 rfl (abcF ++ [9]) rfl (by omega) (Nat.le_trans HB3.out.size (le_alloc _ _)) ?_
       intro A4 c4 w4 hown4 hb4
       have HOWN4 := Lib.hid hown4
       have HB4 := Lib.hid (Below.trans (HB3.out.alloc HB3.out.size _) hb4)
       clear hown4 hb4))
  have hg4 := Grows.trans HG2.out HB4.out
  have HG4 := Lib.hid hg4
  have HS4 := Lib.hid (HS2.out.grow HB4.out)
  clear HB3 HB4 HOWN3 hg4 HS2
  refine (first_any A4 12 c4 _ w4 (Sl.owned HOWN4.out) (by omega)).mono ?_
  rw [abc_first]
  rintro e w5 ⟨A5, m5, c5, rfl, hs5, hb5⟩
  have hl5 := hs5.len
  change 3 = m5 at hl5
  subst hl5
  have HS5 := Lib.hid hs5
  have HG5 := Lib.hid (Grows.trans HG4.out hb5)
  have HF5 := Lib.hid (HS4.out.grow hb5)
  clear hs5 hb5 HG4 HS4 HOWN4 HG2
  have hc2 : (10 : Int) ≤ (c2 : Int) := by have := HF5.out.cap; omega
  go_wp2_with (fail)
  refine (first_any A2 10 c2 _ w5 (HF5.out.first (by omega)) (by omega)).mono ?_
  rw [abc_cut]
  rintro e w6 ⟨A6, m6, c6, rfl, hs6, hb6⟩
  have hl6 := hs6.len
  change 0 = m6 at hl6
  subst hl6
  have HG6 := Lib.hid (Grows.trans HG5.out hb6)
  have HF6 := Lib.hid (HF5.out.grow hb6)
  have HS6 := Lib.hid (HS5.out.grow hb6)
  clear hs6 hb6 HG5 HF5 HS5
  go_wp2_with (fail)
  refine (first_any _ 5 5 _ _ ((Whole.made w6 5 #[.int .u8 0, .int .u8 3, .int .u8 255, .int .u8 253, .int .u8 1]).sl [0, 3, 255, 253, 1] rfl rfl) (by omega)).mono ?_
  rw [abc_bad]
  rintro e w7 ⟨A7, m7, c7, rfl, hs7, hb7⟩
  have hl7 := hs7.len
  change 0 = m7 at hl7
  subst hl7
  have hg7 := Grows.trans (grows_alloc w6 (.cells #[.int .u8 0, .int .u8 3, .int .u8 255, .int .u8 253, .int .u8 1] 5)) hb7
  have HG7 := Lib.hid (Grows.trans HG6.out hg7)
  have HF7 := Lib.hid (HF6.out.grow hg7)
  have HS7 := Lib.hid (HS6.out.grow hg7)
  clear hs7 hb7 hg7 HG6 HF6 HS6
  go_wp2_with (first
    | (at_builtin
       refine list_append_sl rfl (.tmp 44) (.tmp 45) rfl rfl (owned_none w7) (A := A2) (m := 11) (c := c2) rfl (HF7.out.alloc _) 11 rfl abcF rfl (by omega) (le_alloc _ _) ?_
       intro A8 c8 w8 hown8 hb8
       obtain ⟨g8, cap8, hform, hg8, _⟩ := hown8.form (by omega)
       injection hform with h1 _ h2
       subst h1 h2
       have hcell : w8.cell? ⟨g8, 5, none⟩ = some (.int .u8 98) := hown8.cellAt 5 (by omega)
       have hfree : w8.frozen? ⟨g8, 5, none⟩ = false := hown8.frozenAt _
       have HOWN8 := Lib.hid hown8
       have HB8 := Lib.hid (Below.trans ((Below.refl _ w7).alloc (Nat.le_refl _) _) hb8)
       clear hown8 hb8))
  have hown9 := (HOWN8.out.stored 5 (.int .u8 66)).1
  have HOWN9 := Lib.hid hown9
  have HB9 := Lib.hid (HB8.out.setCell (p := ⟨g8, 5, none⟩) hg8 (.int .u8 66))
  have HG9 := Lib.hid (Grows.trans HG7.out HB9.out)
  have HF9 := Lib.hid (HF7.out.grow HB9.out)
  have HS9 := Lib.hid (HS7.out.grow HB9.out)
  clear hown9 HB9 HB8 HOWN8 HG7 HF7 HS7 hcell hfree
  refine (first_any _ 11 _ (abcF.set 5 66) _ (Sl.owned HOWN9.out) (by omega)).mono ?_
  rw [abc_turned]
  rintro e w10 ⟨A10, m10, c10, rfl, hs10, hb10⟩
  have hl10 := hs10.len
  change 0 = m10 at hl10
  subst hl10
  have HG10 := Lib.hid (Grows.trans HG9.out hb10)
  have hf10 := HF9.out.grow hb10
  have hs := run_string (HS9.out.grow hb10)
  obtain ⟨ad, rfl⟩ : ∃ ad, A2 = some ad := by
    obtain ⟨ad, h, _⟩ := hf10.bytes.spot (k := 0) (by omega)
    exact ⟨ad, h⟩
  obtain ⟨_, _, c1, _, c3⟩ := first_cells hf10
  clear hs10 hb10 HG9 HF9 HS9 HOWN9 hf10
  go_wp2_with (fail)
  refine (size_any 8192 _ (by omega) (by omega)).mono ?_
  rw [show sizeN 8192 = 8200 by decide +kernel]
  rintro e w11 ⟨rfl, rfl⟩
  go_wp2_with (fail)
  refine (size_any 8193 _ (by omega) (by omega)).mono ?_
  rw [show sizeN 8193 = 0 by decide +kernel]
  rintro e w11 ⟨rfl, rfl⟩
  go_wp2_with (fail)
  refine (put_any none 0 0 [] _ (Sl.nil _) (by unfold maxLen; omega)).mono ?_
  rintro e w11 ⟨A11, m11, c11, rfl, hs11, hb11⟩
  have hl11 := hs11.len
  rw [none_put] at hl11
  change 0 = m11 at hl11
  subst hl11
  have HG11 := Lib.hid (Grows.trans HG10.out hb11)
  clear hs11 hb11 HG10
  go_wp2_with (fail)
  go_ret
  exact ⟨rfl, HG11.out⟩
end Go.Proofs.Ytfefghnincjlgaa
