/-
  The walk of souterrainlaw01.SumTable (written by wip/gen/table.py): it is true of any two bytes, and writes nothing that was there.
-/
import Derived.Test.YtefempiefkcccaaHead
import Derived.Test.YtefempiefkcccaaQuiet
import Derived.Test.YtefempiefkcccaaLinear
namespace Go.Proofs.Ytefempiefkcccaa
open Go.RowKit

set_option maxRecDepth 100000 in
set_option maxHeartbeats 4000000 in
theorem table_law (x y : Nat) (lx : x < 256) (ly : y < 256) (w : World) :
    Calls Try.prog 7 #[.int .u8 (x : Nat), .int .u8 (y : Nat)] w fun e w' => e = .returned (.bool true) ∧ Below w.heap.size w w' := by
  have hz := zeroT
  go_enter Try.func7, Try.ntmps7
  go_wp2_with (fail)
  refine (head_any _).mono ?_
  rintro e w0 ⟨rfl, hb0⟩
  have HB0 := Lib.hid hb0
  clear hb0
  go_wp2_with (fail)
  refine (table_any _).mono ?_
  rintro e w1 ⟨rfl, hb1⟩
  have hb1' := HB0.out.trans (hb1.mono HB0.out.size)
  have hw1 := Whole.made w1 23 (arrV fun _ => 0)
  have Hw1 := Lib.hid hw1
  clear hw1 hb1
  go_wp2_with (refine wpList_store_row rfl 23 _ _ rfl w1.heap.size (arrV tabN) rfl rfl 23 _ Hw1.out (by rw [arrV_size]; exact sizeT) (by rw [arrV_size, arrV_size]) (arrV_one _) ?_)
  have hW : Whole ((w1.alloc (.cells (arrV fun _ => 0) 23)).setRow w1.heap.size (arrV tabN)) w1.heap.size 23 (arrV tabN) := setRow_heap _ _ _ _ _ _ Hw1.out
  have hB : Below w.heap.size w ((w1.alloc (.cells (arrV fun _ => 0) 23)).setRow w1.heap.size (arrV tabN)) := below_setRow (hb1'.alloc hb1'.size _) hb1'.size _
  clear Hw1 hb1' HB0
  generalize (w1.alloc (.cells (arrV fun _ => 0) 23)).setRow w1.heap.size (arrV tabN) = W at *
  generalize w1.heap.size = g at *
  have HW := Lib.hid hW
  have HB := Lib.hid hB
  clear hW hB
  have hq0 : x ^^^ y < 2 ^ 8 := Nat.xor_lt_two_pow (by omega) (by omega)
  have hxy := u8_xor x y lx ly
  have htq := u32_xor_nat (tabN x) (tabN y) (tabN_lt x lx) (tabN_lt y ly)
  rw [← tabN_xor] at htq
  have hbx := tab_same x y lx ly
  generalize (x ^^^ y) = q at *
  have lq : q < 256 := by omega
  clear hq0
  have bx : (0 : Int) ≤ (x : Int) ∧ (x : Int) < 256 := by omega
  have by' : (0 : Int) ≤ (y : Int) ∧ (y : Int) < 256 := by omega
  have bq : (0 : Int) ≤ (q : Int) ∧ (q : Int) < 256 := by omega
  obtain ⟨bx0, bx1⟩ := bx
  obtain ⟨by0, by1⟩ := by'
  obtain ⟨bq0, bq1⟩ := bq
  generalize hbb : ((x : Int) == (y : Int)) = b at *
  refine q_region (by kernel_rfl) (by kernel_rfl) ?_
  refine q_op (.bool true) (by rfl) ?_ ?_
  · intro w' hC; clear hC; go_simp
  simp only [Act.put, List.setIfInBounds_toArray, List.set_cons_zero, List.set_cons_succ]
  refine q_op (.bool true) (by rfl) ?_ ?_
  · intro w' hC; clear hC; go_simp
  simp only [Act.put, List.setIfInBounds_toArray, List.set_cons_zero, List.set_cons_succ]
  refine q_op (.int .u8 (x : Nat)) (by rfl) ?_ ?_
  · intro w' hC; clear hC; go_simp
  simp only [Act.put, List.setIfInBounds_toArray, List.set_cons_zero, List.set_cons_succ]
  refine q_op (.pointer (some ⟨g, x, none⟩)) (by rfl) ?_ ?_
  · intro w' hC; clear hC; go_simp
  simp only [Act.put, List.setIfInBounds_toArray, List.set_cons_zero, List.set_cons_succ]
  refine q_op (.int .u32 (tabN x : Nat)) (by rfl) ?_ ?_
  · intro w' hC; have c := (Grows.whole hC HW.out).cell (x); rw [arrV_get _ _ lx] at c; clear hC; go_simp
  simp only [Act.put, List.setIfInBounds_toArray, List.set_cons_zero, List.set_cons_succ]
  refine q_op (.int .u8 (y : Nat)) (by rfl) ?_ ?_
  · intro w' hC; clear hC; go_simp
  simp only [Act.put, List.setIfInBounds_toArray, List.set_cons_zero, List.set_cons_succ]
  refine q_op (.pointer (some ⟨g, y, none⟩)) (by rfl) ?_ ?_
  · intro w' hC; clear hC; go_simp
  simp only [Act.put, List.setIfInBounds_toArray, List.set_cons_zero, List.set_cons_succ]
  refine q_op (.int .u32 (tabN y : Nat)) (by rfl) ?_ ?_
  · intro w' hC; have c := (Grows.whole hC HW.out).cell (y); rw [arrV_get _ _ ly] at c; clear hC; go_simp
  simp only [Act.put, List.setIfInBounds_toArray, List.set_cons_zero, List.set_cons_succ]
  refine q_op (.int .u32 (tabN q : Nat)) (by rfl) ?_ ?_
  · intro w' hC; clear hC; go_simp
  simp only [Act.put, List.setIfInBounds_toArray, List.set_cons_zero, List.set_cons_succ]
  refine q_op (.int .u8 (x : Nat)) (by rfl) ?_ ?_
  · intro w' hC; clear hC; go_simp
  simp only [Act.put, List.setIfInBounds_toArray, List.set_cons_zero, List.set_cons_succ]
  refine q_op (.int .u8 (y : Nat)) (by rfl) ?_ ?_
  · intro w' hC; clear hC; go_simp
  simp only [Act.put, List.setIfInBounds_toArray, List.set_cons_zero, List.set_cons_succ]
  refine q_op (.int .u8 (q : Nat)) (by rfl) ?_ ?_
  · intro w' hC; clear hC; go_simp
  simp only [Act.put, List.setIfInBounds_toArray, List.set_cons_zero, List.set_cons_succ]
  refine q_op (.pointer (some ⟨g, q, none⟩)) (by rfl) ?_ ?_
  · intro w' hC; clear hC; go_simp
  simp only [Act.put, List.setIfInBounds_toArray, List.set_cons_zero, List.set_cons_succ]
  refine q_op (.int .u32 (tabN q : Nat)) (by rfl) ?_ ?_
  · intro w' hC; have c := (Grows.whole hC HW.out).cell (q); rw [arrV_get _ _ lq] at c; clear hC; go_simp
  simp only [Act.put, List.setIfInBounds_toArray, List.set_cons_zero, List.set_cons_succ]
  refine q_op (.bool true) (by rfl) ?_ ?_
  · intro w' hC; clear hC; go_simp
  simp only [Act.put, List.setIfInBounds_toArray, List.set_cons_zero, List.set_cons_succ]
  refine q_op (.bool true) (by rfl) ?_ ?_
  · intro w' hC; clear hC; go_simp
  simp only [Act.put, List.setIfInBounds_toArray, List.set_cons_zero, List.set_cons_succ]
  refine q_op (.bool true) (by rfl) ?_ ?_
  · intro w' hC; clear hC; go_simp
  simp only [Act.put, List.setIfInBounds_toArray, List.set_cons_zero, List.set_cons_succ]
  refine q_op (.int .u8 (x : Nat)) (by rfl) ?_ ?_
  · intro w' hC; clear hC; go_simp
  simp only [Act.put, List.setIfInBounds_toArray, List.set_cons_zero, List.set_cons_succ]
  refine q_op (.pointer (some ⟨g, x, none⟩)) (by rfl) ?_ ?_
  · intro w' hC; clear hC; go_simp
  simp only [Act.put, List.setIfInBounds_toArray, List.set_cons_zero, List.set_cons_succ]
  refine q_op (.int .u32 (tabN x : Nat)) (by rfl) ?_ ?_
  · intro w' hC; have c := (Grows.whole hC HW.out).cell (x); rw [arrV_get _ _ lx] at c; clear hC; go_simp
  simp only [Act.put, List.setIfInBounds_toArray, List.set_cons_zero, List.set_cons_succ]
  refine q_op (.int .u8 (y : Nat)) (by rfl) ?_ ?_
  · intro w' hC; clear hC; go_simp
  simp only [Act.put, List.setIfInBounds_toArray, List.set_cons_zero, List.set_cons_succ]
  refine q_op (.pointer (some ⟨g, y, none⟩)) (by rfl) ?_ ?_
  · intro w' hC; clear hC; go_simp
  simp only [Act.put, List.setIfInBounds_toArray, List.set_cons_zero, List.set_cons_succ]
  refine q_op (.int .u32 (tabN y : Nat)) (by rfl) ?_ ?_
  · intro w' hC; have c := (Grows.whole hC HW.out).cell (y); rw [arrV_get _ _ ly] at c; clear hC; go_simp
  simp only [Act.put, List.setIfInBounds_toArray, List.set_cons_zero, List.set_cons_succ]
  refine q_op (.bool b) (by rfl) ?_ ?_
  · intro w' hC; clear hC; go_simp
  simp only [Act.put, List.setIfInBounds_toArray, List.set_cons_zero, List.set_cons_succ]
  refine q_op (.int .u8 (x : Nat)) (by rfl) ?_ ?_
  · intro w' hC; clear hC; go_simp
  simp only [Act.put, List.setIfInBounds_toArray, List.set_cons_zero, List.set_cons_succ]
  refine q_op (.int .u8 (y : Nat)) (by rfl) ?_ ?_
  · intro w' hC; clear hC; go_simp
  simp only [Act.put, List.setIfInBounds_toArray, List.set_cons_zero, List.set_cons_succ]
  refine q_op (.bool b) (by rfl) ?_ ?_
  · intro w' hC; clear hC; go_simp
  simp only [Act.put, List.setIfInBounds_toArray, List.set_cons_zero, List.set_cons_succ]
  refine q_op (.bool true) (by rfl) ?_ ?_
  · intro w' hC; clear hC; go_simp
  simp only [Act.put, List.setIfInBounds_toArray, List.set_cons_zero, List.set_cons_succ]
  refine q_op (.bool true) (by rfl) ?_ ?_
  · intro w' hC; clear hC; go_simp
  simp only [Act.put, List.setIfInBounds_toArray, List.set_cons_zero, List.set_cons_succ]
  refine q_op (.bool true) (by rfl) ?_ ?_
  · intro w' hC; clear hC; go_simp
  simp only [Act.put, List.setIfInBounds_toArray, List.set_cons_zero, List.set_cons_succ]
  refine wpQuiet_nil ?_
  intro w' hC
  have HC := Lib.hid hC
  clear hC
  go_wp2_with (fail)
  go_ret
  exact ⟨rfl, HB.out.trans (HC.out.mono HB.out.size)⟩
end Go.Proofs.Ytefempiefkcccaa
