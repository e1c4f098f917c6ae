/-
  SumTells holds of any table, any number and any bytes: the table's every place, and the sums by any table, are the document's, and by the table those that are told bit by bit; no condition.
-/
import Derived.Test.YtefempiefkcccaaHead
import Derived.Test.YtefempiefkcccaaRef
import Derived.Test.YtefempiefkcccaaQuiet
import Derived.Test.YtefempiefkcccaaFrame
import Derived.Test.YtefempiefkcccaaSeat
namespace Go.Proofs.Ytefempiefkcccaa
open Go.ChangeShapes Go.WideShapes Go.ChangeAt Go.RowKit

theorem eq_tab (w : World) : (Op.equalIn 10000 23 (.agg (arrV tabN)) (.agg (arrV tabN))).run Try.prog w = .ok true w := by kernel_rfl

set_option maxRecDepth 100000 in
set_option maxHeartbeats 1000000 in
theorem tells_out (f : Nat → Nat) (s : Nat) (A : Option Addr) (n c : Nat) (w : World) (_hreach : c ≤ 140737488351232) (_hcap : n ≤ c) (hbig : 20000 < n) :
    Calls Try.prog 3 #[.agg (arrV f), .int .u32 (s : Nat), .slice A n c] w fun e w' => e = .returned (.bool true) ∧ Below w.heap.size w w' := by
  go_enter Try.func3, Try.ntmps3
  go_wp2_with (fail)
  refine (head_any _).mono ?_
  rintro e w0 ⟨rfl, hb0⟩
  have HB0 := Lib.hid hb0
  clear hb0
  go_wp2_with (fail)
  go_ret
  exact ⟨rfl, ((Below.refl _ _).alloc (Nat.le_refl _) _).trans (HB0.out.mono (by simp))⟩

set_option maxRecDepth 100000 in
set_option maxHeartbeats 4000000 in
theorem tells_in (f : Nat → Nat) (hf : ∀ i, i < 256 → f i < 4294967296) (s : Nat) (hs : s < 4294967296) (A : Option Addr) (n c : Nat) (bs : List UInt8) (w : World) (hcame : Came w A n c bs) (hsmall : n ≤ 20000) :
    Calls Try.prog 3 #[.agg (arrV f), .int .u32 (s : Nat), .slice A n c] w fun e w' => e = .returned (.bool true) ∧ Below w.heap.size w w' := by
  have hz := zeroT
  have hcap := hcame.cap
  have hreach := hcame.reach
  have HC := Lib.hid hcame
  clear hcame
  go_enter Try.func3, Try.ntmps3
  go_wp2_with (fail)
  refine (head_any _).mono ?_
  rintro e w0 ⟨rfl, hb0⟩
  have hT : Whole w0 w.heap.size 23 (arrV f) := (Whole.made w _ _).after' hb0
  have HT0 := Lib.hid hT
  have hbw : Below w.heap.size w w0 := ((Below.refl _ _).alloc (Nat.le_refl _) _).trans (hb0.mono (by simp))
  have HBW := Lib.hid hbw
  clear hb0 hT hbw
  go_wp2_with (fail)
  refine (table_any _).mono ?_
  rintro e w1 ⟨rfl, hb1⟩
  have hb1' := HBW.out.trans (hb1.mono HBW.out.size)
  have HB1 := Lib.hid hb1'
  have hT1 := HT0.out.after' hb1
  have HT1 := Lib.hid hT1
  have hw1 := Whole.made w1 23 (arrV fun _ => 0)
  have Hw1 := Lib.hid hw1
  have hlt := hT1.lt
  clear hw1 hb1 hb1' hT1 HT0
  go_wp2_with (refine wpList_store_row rfl 23 _ _ rfl w1.heap.size (arrV tabN) rfl rfl 23 _ Hw1.out (by rw [arrV_size]; exact sizeT) (by rw [arrV_size, arrV_size]) (arrV_one _) ?_)
  have hW : Whole ((w1.alloc (.cells (arrV fun _ => 0) 23)).setRow w1.heap.size (arrV tabN)) w1.heap.size 23 (arrV tabN) := setRow_heap _ _ _ _ _ _ Hw1.out
  have hB : Below w.heap.size w ((w1.alloc (.cells (arrV fun _ => 0) 23)).setRow w1.heap.size (arrV tabN)) := below_setRow (HB1.out.alloc HB1.out.size _) HB1.out.size _
  have hT : Whole ((w1.alloc (.cells (arrV fun _ => 0) 23)).setRow w1.heap.size (arrV tabN)) w.heap.size 23 (arrV f) :=
    HT1.out.below (below_setRow ((Below.refl _ _).alloc (Nat.le_refl _) _) (Nat.le_refl _) _) hlt
  have hX := (HC.out.bytes.below hB).wider hB.size
  have HW := Lib.hid hW
  have HB := Lib.hid hB
  have HT := Lib.hid hT
  have HX := Lib.hid hX
  clear hW hB hT hX Hw1 HT1 HB1 HBW hlt
  generalize (w1.alloc (.cells (arrV fun _ => 0) 23)).setRow w1.heap.size (arrV tabN) = W at *
  generalize w1.heap.size = g at *
  generalize ht0 : w.heap.size = t0 at *
  have HTS := Lib.hid ht0
  clear ht0
  generalize he1 : onN f s bs = x1 at *
  generalize he2 : onN f 0 bs = x2 at *
  generalize he3 : onN tabN 0 bs = x3 at *
  have E1 := Lib.hid he1
  have E2 := Lib.hid he2
  have E3 := Lib.hid he3
  clear he1 he2 he3
  refine q_region (by kernel_rfl) (by kernel_rfl) ?_
  refine q_op (.bool true) (by rfl) ?_ ?_
  · intro w' hC; clear hC; go_simp
  simp only [Act.put, List.setIfInBounds_toArray, List.set_cons_zero, List.set_cons_succ]
  refine q_op (.bool true) (by rfl) ?_ ?_
  · intro w' hC; clear hC; go_simp
  simp only [Act.put, List.setIfInBounds_toArray, List.set_cons_zero, List.set_cons_succ]
  refine q_row (by rfl) 23 _ rfl g rfl 23 (arrV tabN) _ (fun _ hC => Grows.whole hC HW.out) Try.underlying23 rfl (by rw [arrV_size]; exact sizeT) ?_
  simp only [Act.put, List.setIfInBounds_toArray, List.set_cons_zero, List.set_cons_succ]
  refine q_call 11 #[] (.agg (arrV tabN)) (by rfl) (by intro w' hC; clear hC; go_simp) ?_ ?_
  · exact fun w' hC => (refTable_any w').mono fun e w2 ⟨he, hb2⟩ => ⟨he, Grows.trans hC hb2⟩
  simp only [Act.put, List.setIfInBounds_toArray, List.set_cons_zero, List.set_cons_succ]
  refine q_op (.bool true) (by rfl) ?_ ?_
  · intro w' hC; clear hC; have hq := eq_tab w'; go_simp
  simp only [Act.put, List.setIfInBounds_toArray, List.set_cons_zero, List.set_cons_succ]
  refine q_op (.bool true) (by rfl) ?_ ?_
  · intro w' hC; clear hC; go_simp
  simp only [Act.put, List.setIfInBounds_toArray, List.set_cons_zero, List.set_cons_succ]
  refine q_op (.bool true) (by rfl) ?_ ?_
  · intro w' hC; clear hC; go_simp
  simp only [Act.put, List.setIfInBounds_toArray, List.set_cons_zero, List.set_cons_succ]
  refine q_row (by rfl) 23 _ rfl t0 rfl 23 (arrV f) _ (fun _ hC => Grows.whole hC HT.out) Try.underlying23 rfl (by rw [arrV_size]; exact sizeT) ?_
  simp only [Act.put, List.setIfInBounds_toArray, List.set_cons_zero, List.set_cons_succ]
  refine q_op (.int .u32 (s : Nat)) (by rfl) ?_ ?_
  · intro w' hC; clear hC; go_simp
  simp only [Act.put, List.setIfInBounds_toArray, List.set_cons_zero, List.set_cons_succ]
  refine q_op (.slice A n c) (by rfl) ?_ ?_
  · intro w' hC; clear hC; go_simp
  simp only [Act.put, List.setIfInBounds_toArray, List.set_cons_zero, List.set_cons_succ]
  refine q_call 12 #[.agg (arrV f), .int .u32 (s : Nat), .slice A n c] (.int .u32 (x1 : Nat)) (by rfl) (by intro w' hC; clear hC; go_simp) ?_ ?_
  · exact fun w' hC => (on_any f hf s hs A n c _ w' (Grows.bytes hC HX.out) (by unfold maxLen; omega)).mono fun e w2 ⟨he, hb2⟩ => ⟨he.trans (by rw [E1.out]), Grows.trans hC hb2⟩
  simp only [Act.put, List.setIfInBounds_toArray, List.set_cons_zero, List.set_cons_succ]
  refine q_row (by rfl) 23 _ rfl t0 rfl 23 (arrV f) _ (fun _ hC => Grows.whole hC HT.out) Try.underlying23 rfl (by rw [arrV_size]; exact sizeT) ?_
  simp only [Act.put, List.setIfInBounds_toArray, List.set_cons_zero, List.set_cons_succ]
  refine q_op (.int .u32 (s : Nat)) (by rfl) ?_ ?_
  · intro w' hC; clear hC; go_simp
  simp only [Act.put, List.setIfInBounds_toArray, List.set_cons_zero, List.set_cons_succ]
  refine q_op (.slice A n c) (by rfl) ?_ ?_
  · intro w' hC; clear hC; go_simp
  simp only [Act.put, List.setIfInBounds_toArray, List.set_cons_zero, List.set_cons_succ]
  refine q_call 13 #[.agg (arrV f), .int .u32 (s : Nat), .slice A n c] (.int .u32 (x1 : Nat)) (by rfl) (by intro w' hC; clear hC; go_simp) ?_ ?_
  · exact fun w' hC => (refOn_any f hf s hs A n c _ w' (Grows.bytes hC HX.out) (by unfold maxLen; omega)).mono fun e w2 ⟨he, hb2⟩ => ⟨he.trans (by rw [E1.out]), Grows.trans hC hb2⟩
  simp only [Act.put, List.setIfInBounds_toArray, List.set_cons_zero, List.set_cons_succ]
  refine q_op (.bool true) (by rfl) ?_ ?_
  · intro w' hC; clear hC; go_simp
  simp only [Act.put, List.setIfInBounds_toArray, List.set_cons_zero, List.set_cons_succ]
  refine q_op (.bool true) (by rfl) ?_ ?_
  · intro w' hC; clear hC; go_simp
  simp only [Act.put, List.setIfInBounds_toArray, List.set_cons_zero, List.set_cons_succ]
  refine q_op (.bool true) (by rfl) ?_ ?_
  · intro w' hC; clear hC; go_simp
  simp only [Act.put, List.setIfInBounds_toArray, List.set_cons_zero, List.set_cons_succ]
  refine q_row (by rfl) 23 _ rfl t0 rfl 23 (arrV f) _ (fun _ hC => Grows.whole hC HT.out) Try.underlying23 rfl (by rw [arrV_size]; exact sizeT) ?_
  simp only [Act.put, List.setIfInBounds_toArray, List.set_cons_zero, List.set_cons_succ]
  refine q_op (.slice A n c) (by rfl) ?_ ?_
  · intro w' hC; clear hC; go_simp
  simp only [Act.put, List.setIfInBounds_toArray, List.set_cons_zero, List.set_cons_succ]
  refine q_call 14 #[.agg (arrV f), .slice A n c] (.int .u32 (x2 : Nat)) (by rfl) (by intro w' hC; clear hC; go_simp) ?_ ?_
  · exact fun w' hC => (of_any f hf A n c _ w' (Grows.bytes hC HX.out) (by unfold maxLen; omega)).mono fun e w2 ⟨he, hb2⟩ => ⟨he.trans (by rw [E2.out]), Grows.trans hC hb2⟩
  simp only [Act.put, List.setIfInBounds_toArray, List.set_cons_zero, List.set_cons_succ]
  refine q_row (by rfl) 23 _ rfl t0 rfl 23 (arrV f) _ (fun _ hC => Grows.whole hC HT.out) Try.underlying23 rfl (by rw [arrV_size]; exact sizeT) ?_
  simp only [Act.put, List.setIfInBounds_toArray, List.set_cons_zero, List.set_cons_succ]
  refine q_op (.slice A n c) (by rfl) ?_ ?_
  · intro w' hC; clear hC; go_simp
  simp only [Act.put, List.setIfInBounds_toArray, List.set_cons_zero, List.set_cons_succ]
  refine q_call 15 #[.agg (arrV f), .slice A n c] (.int .u32 (x2 : Nat)) (by rfl) (by intro w' hC; clear hC; go_simp) ?_ ?_
  · exact fun w' hC => (refOf_any f hf A n c _ w' (Grows.bytes hC HX.out) (by unfold maxLen; omega)).mono fun e w2 ⟨he, hb2⟩ => ⟨he.trans (by rw [E2.out]), Grows.trans hC hb2⟩
  simp only [Act.put, List.setIfInBounds_toArray, List.set_cons_zero, List.set_cons_succ]
  refine q_op (.bool true) (by rfl) ?_ ?_
  · intro w' hC; clear hC; go_simp
  simp only [Act.put, List.setIfInBounds_toArray, List.set_cons_zero, List.set_cons_succ]
  refine q_op (.bool true) (by rfl) ?_ ?_
  · intro w' hC; clear hC; go_simp
  simp only [Act.put, List.setIfInBounds_toArray, List.set_cons_zero, List.set_cons_succ]
  refine q_op (.bool true) (by rfl) ?_ ?_
  · intro w' hC; clear hC; go_simp
  simp only [Act.put, List.setIfInBounds_toArray, List.set_cons_zero, List.set_cons_succ]
  refine q_row (by rfl) 23 _ rfl g rfl 23 (arrV tabN) _ (fun _ hC => Grows.whole hC HW.out) Try.underlying23 rfl (by rw [arrV_size]; exact sizeT) ?_
  simp only [Act.put, List.setIfInBounds_toArray, List.set_cons_zero, List.set_cons_succ]
  refine q_op (.slice A n c) (by rfl) ?_ ?_
  · intro w' hC; clear hC; go_simp
  simp only [Act.put, List.setIfInBounds_toArray, List.set_cons_zero, List.set_cons_succ]
  refine q_call 14 #[.agg (arrV tabN), .slice A n c] (.int .u32 (x3 : Nat)) (by rfl) (by intro w' hC; clear hC; go_simp) ?_ ?_
  · exact fun w' hC => (of_any tabN tabN_all A n c _ w' (Grows.bytes hC HX.out) (by unfold maxLen; omega)).mono fun e w2 ⟨he, hb2⟩ => ⟨he.trans (by rw [E3.out]), Grows.trans hC hb2⟩
  simp only [Act.put, List.setIfInBounds_toArray, List.set_cons_zero, List.set_cons_succ]
  refine q_op (.slice A n c) (by rfl) ?_ ?_
  · intro w' hC; clear hC; go_simp
  simp only [Act.put, List.setIfInBounds_toArray, List.set_cons_zero, List.set_cons_succ]
  refine q_call 16 #[.slice A n c] (.int .u32 (x3 : Nat)) (by rfl) (by intro w' hC; clear hC; go_simp) ?_ ?_
  · exact fun w' hC => (refBit_any A n c _ w' (Grows.bytes hC HX.out) (by unfold maxLen; omega)).mono fun e w2 ⟨he, hb2⟩ => ⟨he.trans (by rw [E3.out]), hb2 ▸ hC⟩
  simp only [Act.put, List.setIfInBounds_toArray, List.set_cons_zero, List.set_cons_succ]
  refine q_op (.bool true) (by rfl) ?_ ?_
  · intro w' hC; clear hC; go_simp
  simp only [Act.put, List.setIfInBounds_toArray, List.set_cons_zero, List.set_cons_succ]
  refine q_op (.bool true) (by rfl) ?_ ?_
  · intro w' hC; clear hC; go_simp
  simp only [Act.put, List.setIfInBounds_toArray, List.set_cons_zero, List.set_cons_succ]
  refine q_op (.bool true) (by rfl) ?_ ?_
  · intro w' hC; clear hC; go_simp
  simp only [Act.put, List.setIfInBounds_toArray, List.set_cons_zero, List.set_cons_succ]
  refine wpQuiet_nil ?_
  intro w' hC
  have HG := Lib.hid hC
  clear hC
  go_wp2_with (fail)
  go_ret
  have h1 := HB.out.size
  have h2 := HTS.out
  exact ⟨rfl, by rw [h2]; exact HB.out.trans (HG.out.mono (by omega))⟩

set_option maxRecDepth 100000 in
theorem tells_lifted (os : Os) (started : os.Started) (H : Type) (enc : TypeId × Value → H) :
    ReturnsInHanded {} Try.checked os 3 .any (Rows.sumTellsSpec.pre6 enc Try.prog Try.f3 Rows.sumTellsRow.domain false) (Rows.sumTellsSpec.post enc Try.prog Try.f3 false true false false) := by
  refine lift_law (C := Try.checked) H enc own started (by kernel_rfl) Try.func3
    (ChangeSpec.witness6 (enc := enc) (C := Try.checked) false ⟨#[], #[.agg (arrV fun _ => 0), .int .u32 0, .slice none 0 0], []⟩ 300 (by kernel_rfl) (by kernel_rfl) (by kernel_rfl) (by kernel_rfl))
    laidOut (of_readable (by kernel_rfl)) rfl Try.underlying4 rfl (fun ds hd => ?_) (fun W base args ds p hval hA hsz => ?_)
  · match ds, hd with
    | [d1, d2, d3], _ => rfl
  · rw [Try.params3] at hA hval hsz
    obtain ⟨v0, vs0, d0, ds0, p0, q0, hargs, rfl, rfl, h0, r0⟩ := trodAll_cons hA
    obtain ⟨v1, vs1, d1, ds1, p1, q1, rfl, rfl, rfl, h1, r1⟩ := trodAll_cons r0
    obtain ⟨v2, vs2, d2, ds2, p2, q2, rfl, rfl, rfl, h2, r2⟩ := trodAll_cons r1
    obtain ⟨rfl, rfl, rfl⟩ := trodAll_nil r2
    obtain rfl : args = #[v0, v1, v2] := by cases args; simp_all
    obtain ⟨f, rfl, hf⟩ := open_arr Try.underlying23 Try.underlying22 (by kernel_rfl) (by kernel_rfl) (hval 0 23 v0 rfl rfl) h0
    obtain ⟨a1, rfl, _, _, w1⟩ := open_int Try.underlying22 (hval 1 22 v1 rfl rfl) h1
    obtain ⟨A, n, c, xs, rfl, hx⟩ := open_bytes Try.underlying24 Try.underlying5 (by kernel_rfl) (by kernel_rfl) (hval 2 24 v2 rfl rfl) h2 hsz (j := 2) rfl rfl
    have b1 := bounds_u32 w1
    obtain ⟨s, rfl⟩ := Int.eq_ofNat_of_zero_le b1.1
    by_cases hbig : 20000 < n
    · exact tells_out f s A n c W hx.reach hx.cap hbig
    · exact tells_in f hf s (by omega) A n c xs W hx (by omega)

theorem tells_over : Rows.sumTellsRow.holds Try.pinned (OpenSpec.ofChange Rows.sumTellsSpec) :=
  OpenClaim.holds_of_wide 3 Try.f3 rfl rfl rfl rfl rfl rfl rfl ⟨rfl, rfl, rfl, rfl, rfl⟩ rfl rfl rfl rfl rfl (by kernel_rfl) Try.func3 (by kernel_rfl)
    (of_decide_eq_true (by kernel_rfl)) (by unfold Func.isWrapper; first | (rw [if_pos (by decide +kernel)]; kernel_rfl) | (rw [if_neg (by decide +kernel)]; exact ⟨rfl, rfl⟩))
    (fun os started H enc _ => tells_lifted os started H enc)
theorem sumTells_holds : Rows.SumTellsSaid := tells_over
end Go.Proofs.Ytefempiefkcccaa
