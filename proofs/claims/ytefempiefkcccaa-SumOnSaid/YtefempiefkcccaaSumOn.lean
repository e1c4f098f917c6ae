/-
  SumOn holds of any table, any number and any two runs of bytes: with any table the sum of bytes is that of their first ones, gone on with the others; no condition.
-/
import Derived.Test.YtefempiefkcccaaHead
import Derived.Test.YtefempiefkcccaaQuiet
import Derived.Test.YtefempiefkcccaaLists
import Derived.Test.YtefempiefkcccaaFrame
import Derived.Test.YtefempiefkcccaaSeat
namespace Go.Proofs.Ytefempiefkcccaa
open Go.ChangeShapes Go.WideShapes Go.ChangeAt Go.RowKit

theorem infoB : (Try.prog.info? 5).map (fun i => (i.zero, i.size, i.bytes)) = some (some (.int .u8 0), 1, 1) := by kernel_rfl

set_option maxRecDepth 100000 in
set_option maxHeartbeats 1000000 in
theorem on_law (f : Nat → Nat) (hf : ∀ i, i < 256 → f i < 4294967296) (s : Nat) (hs : s < 4294967296) (A : Option Addr) (n c : Nat) (xs : List UInt8) (A' : Option Addr) (n' c' : Nat) (ys : List UInt8) (w : World) (ha : Came w A n c xs) (hb : Came w A' n' c' ys) :
    Calls Try.prog 4 #[.agg (arrV f), .int .u32 (s : Nat), .slice A n c, .slice A' n' c'] w fun e w' => e = .returned (.bool true) ∧ Below w.heap.size w w' := by
  have hreach := ha.reach
  have hcap := ha.cap
  have hreach' := hb.reach
  have hcap' := hb.cap
  have HA := Lib.hid ha
  have HB := Lib.hid hb
  clear ha hb
  obtain ⟨i0, hi, hz0, hz1, hz2⟩ := info_parts infoB
  have HI := Lib.hid hi
  have HZ := Lib.hid (And.intro hz0 (And.intro hz1 hz2))
  clear hi hz0 hz1 hz2
  by_cases hbig : 20000 < n + n'
  · go_enter Try.func4, Try.ntmps4
    go_wp2_with (fail)
    refine (head_any _).mono ?_
    rintro e w0 ⟨rfl, hb0⟩
    have HB0 := Lib.hid hb0
    clear hb0
    go_wp2_with (fail)
    go_ret
    exact ⟨rfl, ((Below.refl _ _).alloc (Nat.le_refl _) _).trans (HB0.out.mono (by simp))⟩
  · go_enter Try.func4, Try.ntmps4
    go_wp2_with (fail)
    refine (head_any _).mono ?_
    rintro e w0 ⟨rfl, hb0⟩
    have HB0 := Lib.hid hb0
    clear hb0
    have hT : Whole w0 w.heap.size 23 (arrV f) := (Whole.made w _ _).after' HB0.out
    have HT0 := Lib.hid hT
    have hbw : Below w.heap.size w w0 := ((Below.refl _ _).alloc (Nat.le_refl _) _).trans (HB0.out.mono (by simp))
    have HBW := Lib.hid hbw
    have hown0 : (w0.alloc (.cells #[] 5)).ownsRow w0.heap.size 5 1 (.slice (some ⟨w0.heap.size, 0, none⟩) 0 0) 0 [] :=
      World.ownsRow_lit w0 #[] 0 (Nat.le_refl _) (Nat.zero_le _) rfl
    have HO0 := Lib.hid hown0
    have hrx : Row (w0.alloc (.cells #[] 5)) w0.heap.size A n (xs.map byteV) := (Row.wider (Row.below HA.out.bytes HBW.out) HBW.out.size).alloc (Nat.le_refl _) _
    have HRX := Lib.hid hrx
    clear hown0 hrx hT hbw
    go_wp2_with (first
      | (at_builtin
         refine list_append_row rfl (.tmp 19) (.tmp 20) _ rfl Try.underlying24 HI.out HZ.out.1 HZ.out.2.1 HZ.out.2.2 rfl (v := .slice (some ⟨w0.heap.size, 0, none⟩) 0 0) rfl HO0.out (A := A) (m := n) (c := c) rfl HRX.out HA.out.bare (byteV_one xs) n (by omega) (xs.map byteV) rfl (by unfold maxLen; omega) (by omega) (by simp) ?_
         intro A1 c1 w1 hown1 hbare1 hg1 hat1
         have hb1 : Below w0.heap.size w0 w1 := (((Below.refl _ _).alloc (Nat.le_refl _) _).grown hg1 (by simp) (fun k hk => by injection hk with hk; exact Nat.le_of_eq hk))
         have HOWN1 := Lib.hid hown1
         have HBa := Lib.hid hb1
         have hry : Row w1 w0.heap.size A' n' (ys.map byteV) := Row.below (Row.wider (Row.below HB.out.bytes HBW.out) HBW.out.size) hb1
         have HRY := Lib.hid hry
         clear hown1 hbare1 hg1 hat1 hb1 hry)
      | (at_builtin
         refine list_append_row rfl (.tmp 21) (.tmp 22) _ rfl Try.underlying24 HI.out HZ.out.1 HZ.out.2.1 HZ.out.2.2 rfl (v := .slice A1 n c1) rfl HOWN1.out (A := A') (m := n') (c := c') rfl HRY.out HB.out.bare (byteV_one ys) (n + n') rfl ((xs ++ ys).map byteV) (List.map_append).symm (by unfold maxLen; omega) (by omega) HBa.out.size ?_
         intro A2 c2 w2 hown2 hbare2 hg2 hat2
         have hb2 : Below w0.heap.size w0 w2 := HBa.out.grown hg2 HBa.out.size (fun k hk => (HOWN1.out.lt k hk).1)
         have HOWN2 := Lib.hid hown2
         have HBb := Lib.hid hb2
         clear hown2 hbare2 hg2 hat2 hb2))
    have hT := HT0.out.after' HBb.out
    have HT := Lib.hid hT
    have hAll : Bytes w2 w2.heap.size A2 (n + n') (xs ++ ys) := Row.owned HOWN2.out
    have HAll := Lib.hid hAll
    have hXa : Bytes w2 w2.heap.size A n xs := ((HA.out.bytes.below HBW.out).wider HBW.out.size |>.below HBb.out).wider HBb.out.size
    have HXa := Lib.hid hXa
    have hYa : Bytes w2 w2.heap.size A' n' ys := ((HB.out.bytes.below HBW.out).wider HBW.out.size |>.below HBb.out).wider HBb.out.size
    have HYa := Lib.hid hYa
    have hBz := HBW.out.trans (HBb.out.mono HBW.out.size)
    have HBz := Lib.hid hBz
    clear hT hAll hXa hYa hBz HBb HOWN2 HRY HBa HOWN1 HRX HO0 HT0 HB0 HBW
    have hx1 := onN_lt f s xs
    have h2 : onN f (onN f s xs) ys = onN f s (xs ++ ys) := onN_on f hf s hs xs ys
    have h4 := onN_nil f s hs
    have H4 := Lib.hid h4
    clear h4
    generalize h1 : onN f s xs = x1 at *
    generalize h3 : onN f s (xs ++ ys) = x2 at *
    have H1 := Lib.hid h1
    have H2 := Lib.hid h2
    have H3 := Lib.hid h3
    clear h1 h2 h3
    generalize ht0 : w.heap.size = t0 at *
    have HTS := Lib.hid ht0
    clear ht0
    refine q_region (by kernel_rfl) (by kernel_rfl) ?_
    refine q_op (.bool true) (by rfl) ?_ ?_
    · intro w' hC; clear hC; go_simp
    simp only [Act.put, List.setIfInBounds_toArray, List.set_cons_zero, List.set_cons_succ]
    refine q_op (.bool true) (by rfl) ?_ ?_
    · intro w' hC; clear hC; go_simp
    simp only [Act.put, List.setIfInBounds_toArray, List.set_cons_zero, List.set_cons_succ]
    refine q_row (by rfl) 23 _ rfl t0 rfl 23 (arrV f) _ (fun _ hC => Grows.whole hC HT.out) Try.underlying23 rfl (by rw [arrV_size]; exact sizeT) ?_
    simp only [Act.put, List.setIfInBounds_toArray, List.set_cons_zero, List.set_cons_succ]
    refine q_row (by rfl) 23 _ rfl t0 rfl 23 (arrV f) _ (fun _ hC => Grows.whole hC HT.out) Try.underlying23 rfl (by rw [arrV_size]; exact sizeT) ?_
    simp only [Act.put, List.setIfInBounds_toArray, List.set_cons_zero, List.set_cons_succ]
    refine q_op (.int .u32 (s : Nat)) (by rfl) ?_ ?_
    · intro w' hC; clear hC; go_simp
    simp only [Act.put, List.setIfInBounds_toArray, List.set_cons_zero, List.set_cons_succ]
    refine q_op (.slice A n c) (by rfl) ?_ ?_
    · intro w' hC; clear hC; go_simp
    simp only [Act.put, List.setIfInBounds_toArray, List.set_cons_zero, List.set_cons_succ]
    refine q_call 12 #[.agg (arrV f), .int .u32 (s : Nat), .slice A n c] (.int .u32 (x1 : Nat)) (by rfl) (by intro w' hC; clear hC; go_simp) ?_ ?_
    · exact fun w' hC => (on_any f hf s hs A n c _ w' (Grows.bytes hC HXa.out) (by unfold maxLen; omega)).mono fun e w2 ⟨he, hb2⟩ => ⟨he.trans (by rw [H1.out]), Grows.trans hC hb2⟩
    simp only [Act.put, List.setIfInBounds_toArray, List.set_cons_zero, List.set_cons_succ]
    refine q_op (.slice A' n' c') (by rfl) ?_ ?_
    · intro w' hC; clear hC; go_simp
    simp only [Act.put, List.setIfInBounds_toArray, List.set_cons_zero, List.set_cons_succ]
    refine q_call 12 #[.agg (arrV f), .int .u32 (x1 : Nat), .slice A' n' c'] (.int .u32 (x2 : Nat)) (by rfl) (by intro w' hC; clear hC; go_simp) ?_ ?_
    · exact fun w' hC => (on_any f hf x1 hx1 A' n' c' _ w' (Grows.bytes hC HYa.out) (by unfold maxLen; omega)).mono fun e w2 ⟨he, hb2⟩ => ⟨he.trans (by rw [H2.out]), Grows.trans hC hb2⟩
    simp only [Act.put, List.setIfInBounds_toArray, List.set_cons_zero, List.set_cons_succ]
    refine q_row (by rfl) 23 _ rfl t0 rfl 23 (arrV f) _ (fun _ hC => Grows.whole hC HT.out) Try.underlying23 rfl (by rw [arrV_size]; exact sizeT) ?_
    simp only [Act.put, List.setIfInBounds_toArray, List.set_cons_zero, List.set_cons_succ]
    refine q_op (.int .u32 (s : Nat)) (by rfl) ?_ ?_
    · intro w' hC; clear hC; go_simp
    simp only [Act.put, List.setIfInBounds_toArray, List.set_cons_zero, List.set_cons_succ]
    refine q_op (.slice A2 (n + n') c2) (by rfl) ?_ ?_
    · intro w' hC; clear hC; go_simp
    simp only [Act.put, List.setIfInBounds_toArray, List.set_cons_zero, List.set_cons_succ]
    refine q_call 12 #[.agg (arrV f), .int .u32 (s : Nat), .slice A2 (n + n') c2] (.int .u32 (x2 : Nat)) (by rfl) (by intro w' hC; clear hC; go_simp) ?_ ?_
    · exact fun w' hC => (on_any f hf s hs A2 (n + n') c2 _ w' (Grows.bytes hC HAll.out) (by unfold maxLen; omega)).mono fun e w2 ⟨he, hb2⟩ => ⟨he.trans (by rw [H3.out]), Grows.trans hC hb2⟩
    simp only [Act.put, List.setIfInBounds_toArray, List.set_cons_zero, List.set_cons_succ]
    refine q_op (.bool true) (by rfl) ?_ ?_
    · intro w' hC; clear hC; go_simp
    simp only [Act.put, List.setIfInBounds_toArray, List.set_cons_zero, List.set_cons_succ]
    refine q_op (.bool true) (by rfl) ?_ ?_
    · intro w' hC; clear hC; go_simp
    simp only [Act.put, List.setIfInBounds_toArray, List.set_cons_zero, List.set_cons_succ]
    refine q_op (.bool true) (by rfl) ?_ ?_
    · intro w' hC; clear hC; go_simp
    simp only [Act.put, List.setIfInBounds_toArray, List.set_cons_zero, List.set_cons_succ]
    refine q_row (by rfl) 23 _ rfl t0 rfl 23 (arrV f) _ (fun _ hC => Grows.whole hC HT.out) Try.underlying23 rfl (by rw [arrV_size]; exact sizeT) ?_
    simp only [Act.put, List.setIfInBounds_toArray, List.set_cons_zero, List.set_cons_succ]
    refine q_op (.int .u32 (s : Nat)) (by rfl) ?_ ?_
    · intro w' hC; clear hC; go_simp
    simp only [Act.put, List.setIfInBounds_toArray, List.set_cons_zero, List.set_cons_succ]
    refine q_call 12 #[.agg (arrV f), .int .u32 (s : Nat), .slice none 0 0] (.int .u32 (s : Nat)) (by rfl) (by intro w' hC; clear hC; go_simp) ?_ ?_
    · exact fun w' hC => (on_any f hf s hs none 0 0 _ w' (Bytes.nil _ _ _) (by unfold maxLen; omega)).mono fun e w2 ⟨he, hb2⟩ => ⟨he.trans (by rw [H4.out]), Grows.trans hC hb2⟩
    simp only [Act.put, List.setIfInBounds_toArray, List.set_cons_zero, List.set_cons_succ]
    refine q_op (.int .u32 (s : Nat)) (by rfl) ?_ ?_
    · intro w' hC; clear hC; go_simp
    simp only [Act.put, List.setIfInBounds_toArray, List.set_cons_zero, List.set_cons_succ]
    refine q_op (.bool true) (by rfl) ?_ ?_
    · intro w' hC; clear hC; go_simp
    simp only [Act.put, List.setIfInBounds_toArray, List.set_cons_zero, List.set_cons_succ]
    refine q_op (.bool true) (by rfl) ?_ ?_
    · intro w' hC; clear hC; go_simp
    simp only [Act.put, List.setIfInBounds_toArray, List.set_cons_zero, List.set_cons_succ]
    refine q_op (.bool true) (by rfl) ?_ ?_
    · intro w' hC; clear hC; go_simp
    simp only [Act.put, List.setIfInBounds_toArray, List.set_cons_zero, List.set_cons_succ]
    refine wpQuiet_nil ?_
    intro w' hC
    have HC := Lib.hid hC
    clear hC
    go_wp2_with (fail)
    go_ret
    have h1 := HBz.out.size
    have h2 := HTS.out
    exact ⟨rfl, by rw [h2]; exact HBz.out.trans (HC.out.mono (by omega))⟩

set_option maxRecDepth 100000 in
theorem on_lifted (os : Os) (started : os.Started) (H : Type) (enc : TypeId × Value → H) :
    ReturnsInHanded {} Try.checked os 4 .any (Rows.sumOnSpec.pre6 enc Try.prog Try.f4 Rows.sumOnRow.domain false) (Rows.sumOnSpec.post enc Try.prog Try.f4 false true false false) := by
  refine lift_law (C := Try.checked) H enc own started (by kernel_rfl) Try.func4
    (ChangeSpec.witness6 (enc := enc) (C := Try.checked) false ⟨#[], #[.agg (arrV fun _ => 0), .int .u32 0, .slice none 0 0, .slice none 0 0], []⟩ 300 (by kernel_rfl) (by kernel_rfl) (by kernel_rfl) (by kernel_rfl))
    laidOut (of_readable (by kernel_rfl)) rfl Try.underlying4 rfl (fun ds hd => ?_) (fun W base args ds p hval hA hsz => ?_)
  · match ds, hd with
    | [d1, d2, d3, d4], _ => rfl
  · rw [Try.params4] at hA hval hsz
    obtain ⟨v0, vs0, d0, ds0, p0, q0, hargs, rfl, rfl, h0, r0⟩ := trodAll_cons hA
    obtain ⟨v1, vs1, d1, ds1, p1, q1, rfl, rfl, rfl, h1, r1⟩ := trodAll_cons r0
    obtain ⟨v2, vs2, d2, ds2, p2, q2, rfl, rfl, rfl, h2, r2⟩ := trodAll_cons r1
    obtain ⟨v3, vs3, d3, ds3, p3, q3, rfl, rfl, rfl, h3, r3⟩ := trodAll_cons r2
    obtain ⟨rfl, rfl, rfl⟩ := trodAll_nil r3
    obtain rfl : args = #[v0, v1, v2, v3] := by cases args; simp_all
    obtain ⟨f, rfl, hf⟩ := open_arr Try.underlying23 Try.underlying22 (by kernel_rfl) (by kernel_rfl) (hval 0 23 v0 rfl rfl) h0
    obtain ⟨a1, rfl, _, _, w1⟩ := open_int Try.underlying22 (hval 1 22 v1 rfl rfl) h1
    obtain ⟨A, n, c, xs, rfl, hx⟩ := open_bytes Try.underlying24 Try.underlying5 (by kernel_rfl) (by kernel_rfl) (hval 2 24 v2 rfl rfl) h2 hsz (j := 2) rfl rfl
    obtain ⟨A', n', c', ys, rfl, hy⟩ := open_bytes Try.underlying24 Try.underlying5 (by kernel_rfl) (by kernel_rfl) (hval 3 24 v3 rfl rfl) h3 hsz (j := 3) rfl rfl
    have b1 := bounds_u32 w1
    obtain ⟨s, rfl⟩ := Int.eq_ofNat_of_zero_le b1.1
    exact on_law f hf s (by omega) A n c xs A' n' c' ys W hx hy

theorem on_over : Rows.sumOnRow.holds Try.pinned (OpenSpec.ofChange Rows.sumOnSpec) :=
  OpenClaim.holds_of_wide 4 Try.f4 rfl rfl rfl rfl rfl rfl rfl ⟨rfl, rfl, rfl, rfl, rfl⟩ rfl rfl rfl rfl rfl (by kernel_rfl) Try.func4 (by kernel_rfl)
    (of_decide_eq_true (by kernel_rfl)) (by unfold Func.isWrapper; first | (rw [if_pos (by decide +kernel)]; kernel_rfl) | (rw [if_neg (by decide +kernel)]; exact ⟨rfl, rfl⟩))
    (fun os started H enc _ => on_lifted os started H enc)
theorem sumOn_holds : Rows.SumOnSaid := on_over
end Go.Proofs.Ytefempiefkcccaa
