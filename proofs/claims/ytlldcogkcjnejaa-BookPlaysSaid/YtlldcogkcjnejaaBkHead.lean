/-
  Law 12's head: a live question, whose answer is fixed.
-/
import Derived.Test.YtlldcogkcjnejaaBkSame
namespace Go.Proofs.Ytlldcogkcjnejaa
open Go.RowKit Go.Shelf Go.Maps Go.Sort
set_option linter.unusedVariables false
set_option linter.unusedSimpArgs false
attribute [local irreducible] wpF

theorem grow_book {w w1 w2 : World} {b : Nat} (hg : Grows w w1) (hs : Spares (fun k => k = b) w1 w2) (hb : w.heap.size ≤ b) : Grows w w2 :=
  ((Spares.grows (own := fun k => k = b) hg).trans hs).below (Nat.le_refl _) fun k hk e => by omega
def usFact (n : Nat) (l : List Us) : Fact Grows := ⟨Option Addr × Nat, (none, 0), fun p => .slice p.1 n p.2, fun p w => Uss w p.1 n p.2 l, fun _ _ _ h g => Rs.grow h g⟩
section
variable {P : Program} {ops : Array Oper} {W : World} {Q : Act → World → Prop} {o : Oper} {rest : List Oper} {fs : List (Fact Grows)} {ks : Known} {a : Act}
theorem f_callG {F : Fact Grows} (f : FuncId) (args : Array Value) (hw : Region.wanted o (yielded ops a.tmps) = true) (h1 : ∀ w, Grows W w → (execOp a.eval o).run P w = .ok (.enter f args) w)
    (hc : ∀ w, Grows W w → Calls P f args w fun e w' => Grows w w' ∧ ∃ x, e = .returned (F.val x) ∧ F.R x w') (h2 : ∀ x, wpF P ops Grows W Q rest fs ((o.dst, F.R x) :: ks) (a.put o.dst (F.val x))) : wpF P ops Grows W Q (o :: rest) (F :: fs) ks a := by
  unfold wpF fStep
  rw [if_pos hw]
  refine ⟨fun w hW hk => ?_, h2⟩
  unfold gives
  rw [h1 w hW]
  exact hc w hW
end
theorem flat_one : ∀ xs : List Int, xs.flatMap (fun x => [intB x]) = xs.map intB
  | [] => rfl
  | x :: r => by rw [List.flatMap_cons, flat_one r]; rfl
theorem row_segs {w : World} {base : Nat} {A : Option Addr} {c : Nat} {xs : List Int} {n : Nat} (hn : xs.length = n) (h : w.ownsRow base 3 1 (.slice A n c) n (xs.map intB)) : Row w w.heap.size A n (xs.map intB) := by
  have h1 := (Rs.owned (enc := fun x => [intB x]) (k := 1) (fun _ => rfl) hn (l := xs) (by
    rw [flat_one]; exact h)).row
  rw [flat_one, Nat.one_mul] at h1
  exact h1
set_option maxRecDepth 100000 in
set_option maxHeartbeats 8000000 in
theorem head12_any (w : World) : Calls Try.prog 9 #[] w fun e w' => e = .returned (.bool true) ∧ Grows w w' := by
  have HN := Lib.hid (new_any w)
  go_enter Try.func9, Try.ntmps9
  go_wp2_with (fail)
  refine HN.out.mono ?_
  rintro e w1 ⟨p, b, rfl, hb, hg, hp1, hb1⟩
  have HB0 := Lib.hid (show BkAt w1 p b 0 [] ∧ Grows w w1 ∧ w.heap.size ≤ b from ⟨hb, hg, hb1⟩)
  clear hb hg hp1 hb1
  have HC1 := Lib.hid (show Calls Try.prog 16 #[.pointer (some ⟨p, 0, none⟩), .int .i64 3, .int .i64 10, .bool true] w1 (BkTo w1 p b 0 [⟨3, 10, 10⟩] true) from by
    have h0 := put_use HB0.out.1 (by decide) (k := 3) (by decide) (by decide) 10 true
    rw [show putU 3 10 true [] = [⟨3, 10, 10⟩] from by decide, show putB 3 10 [] = true from by decide] at h0
    exact h0)
  go_wp2_with (fail)
  refine HC1.out.mono ?_
  rintro e w2 ⟨⟨rfl, hb, hs⟩, _⟩
  have HB1 := Lib.hid (show BkAt w2 p b 1 [⟨3, 10, 10⟩] ∧ Grows w w2 from ⟨hb, grow_book HB0.out.2.1 hs HB0.out.2.2⟩)
  have HS1 := Lib.hid hs
  clear hb hs
  have HC2 := Lib.hid (show Calls Try.prog 16 #[.pointer (some ⟨p, 0, none⟩), .int .i64 1, .int .i64 5, .bool false] w2 (BkTo w2 p b 1 [⟨1, 5, 0⟩, ⟨3, 10, 10⟩] true) from by
    have h0 := put_use HB1.out.1 (by decide) (k := 1) (by decide) (by decide) 5 false
    rw [show putU 1 5 false [⟨3, 10, 10⟩] = [⟨1, 5, 0⟩, ⟨3, 10, 10⟩] from by decide, show putB 1 5 [⟨3, 10, 10⟩] = true from by decide] at h0
    exact h0)
  go_wp2_with (fail)
  refine HC2.out.mono ?_
  rintro e w3 ⟨⟨rfl, hb, hs⟩, _⟩
  have HB2 := Lib.hid (show BkAt w3 p b 2 [⟨1, 5, 0⟩, ⟨3, 10, 10⟩] ∧ Grows w w3 from ⟨hb, grow_book HB1.out.2 hs HB0.out.2.2⟩)
  have HS2 := Lib.hid hs
  clear hb hs
  have HC3 := Lib.hid (show Calls Try.prog 12 #[.pointer (some ⟨p, 0, none⟩), .int .i64 3, .int .i64 4] w3 (BkTo w3 p b 2 [⟨1, 5, 0⟩, ⟨3, 10, 6⟩] true) from by
    have h0 := kill_use HB2.out.1 (by decide) (k := 3) (by decide) (by decide) 4
    rw [show killU 3 4 [⟨1, 5, 0⟩, ⟨3, 10, 10⟩] = [⟨1, 5, 0⟩, ⟨3, 10, 6⟩] from by decide, show killB 3 4 [⟨1, 5, 0⟩, ⟨3, 10, 10⟩] = true from by decide] at h0
    exact h0)
  go_wp2_with (fail)
  refine HC3.out.mono ?_
  rintro e w4 ⟨⟨rfl, hb, hs⟩, _⟩
  have HB3 := Lib.hid (show BkAt w4 p b 3 [⟨1, 5, 0⟩, ⟨3, 10, 6⟩] ∧ Grows w w4 from ⟨hb, grow_book HB2.out.2 hs HB0.out.2.2⟩)
  have HS3 := Lib.hid hs
  clear hb hs
  have HC4 := Lib.hid (show Calls Try.prog 12 #[.pointer (some ⟨p, 0, none⟩), .int .i64 3, .int .i64 7] w4 (BkTo w4 p b 3 [⟨1, 5, 0⟩, ⟨3, 10, 6⟩] false) from by
    have h0 := kill_use HB3.out.1 (by decide) (k := 3) (by decide) (by decide) 7
    rw [show killU 3 7 [⟨1, 5, 0⟩, ⟨3, 10, 6⟩] = [⟨1, 5, 0⟩, ⟨3, 10, 6⟩] from by decide, show killB 3 7 [⟨1, 5, 0⟩, ⟨3, 10, 6⟩] = false from by decide] at h0
    exact h0)
  go_wp2_with (fail)
  refine HC4.out.mono ?_
  rintro e w5 ⟨⟨rfl, hb, hs⟩, _⟩
  have HB4 := Lib.hid (show BkAt w5 p b 4 [⟨1, 5, 0⟩, ⟨3, 10, 6⟩] ∧ Grows w w5 from ⟨hb, grow_book HB3.out.2 hs HB0.out.2.2⟩)
  have HS4 := Lib.hid hs
  clear hb hs
  have HC5 := Lib.hid (show Calls Try.prog 12 #[.pointer (some ⟨p, 0, none⟩), .int .i64 2, .int .i64 0] w5 (BkTo w5 p b 4 [⟨1, 5, 0⟩, ⟨3, 10, 6⟩] false) from by
    have h0 := kill_use HB4.out.1 (by decide) (k := 2) (by decide) (by decide) 0
    rw [show killU 2 0 [⟨1, 5, 0⟩, ⟨3, 10, 6⟩] = [⟨1, 5, 0⟩, ⟨3, 10, 6⟩] from by decide, show killB 2 0 [⟨1, 5, 0⟩, ⟨3, 10, 6⟩] = false from by decide] at h0
    exact h0)
  go_wp2_with (fail)
  refine HC5.out.mono ?_
  rintro e w6 ⟨⟨rfl, hb, hs⟩, _⟩
  have HB5 := Lib.hid (show BkAt w6 p b 5 [⟨1, 5, 0⟩, ⟨3, 10, 6⟩] ∧ Grows w w6 from ⟨hb, grow_book HB4.out.2 hs HB0.out.2.2⟩)
  have HS5 := Lib.hid hs
  clear hb hs
  have HOF := Lib.hid (show Calls Try.prog 18 #[.pointer (some ⟨p, 0, none⟩), .int .i64 3] w6 fun e w' => e = .returned (.tuple #[.agg #[.int .i64 3, .int .i64 10, .int .i64 6], .bool true]) ∧ Grows w6 w' from of_use HB5.out.1 (k := 3) (by decide) (by decide))
  go_wp2_with (fail)
  refine HOF.out.mono ?_
  rintro e w7 ⟨rfl, hg7⟩
  obtain ⟨W7, hW7⟩ : ∃ W, w7.alloc (.cells #[.int .i64 3, .int .i64 10, .int .i64 6] 34) = W := ⟨_, rfl⟩
  have hg7' : Grows w6 W7 := Grows.trans hg7 (hW7 ▸ grows_alloc _ _)
  have hm7 : Whole W7 w7.heap.size 34 #[.int .i64 3, .int .i64 10, .int .i64 6] := by rw [← hW7]; exact Whole.made _ _ _
  have HB6 := Lib.hid (show BkAt W7 p b 5 [⟨1, 5, 0⟩, ⟨3, 10, 6⟩] ∧ Grows w W7 from ⟨HB5.out.1.grow hg7', Grows.trans HB5.out.2 hg7'⟩)
  have HU7 := Lib.hid hm7
  have HG76 := Lib.hid hg7
  clear hg7 hg7' hm7
  have HSM := Lib.hid (show Calls Try.prog 20 #[.pointer (some ⟨p, 0, none⟩)] W7 fun e w' => e = .returned (.tuple #[.int .i64 15, .int .i64 6]) ∧ Grows W7 w' from sum_use HB6.out.1 (by decide))
  go_wp2_with (first | rw [hW7] | fail)
  clear hW7
  refine HSM.out.mono ?_
  rintro e w8 ⟨rfl, hg8⟩
  have HB7 := Lib.hid (show BkAt w8 p b 5 [⟨1, 5, 0⟩, ⟨3, 10, 6⟩] ∧ Grows w w8 ∧ Grows W7 w8 from ⟨HB6.out.1.grow hg8, Grows.trans HB6.out.2 hg8, hg8⟩)
  clear hg8
  have HWO := Lib.hid (worst_use HB7.out.1 (by decide))
  go_wp2_with (fail)
  refine HWO.out.mono ?_
  rintro e w9 ⟨A11, c11, ws, rfl, hws, hro, hg9⟩
  obtain rfl : ws = [⟨1, 5, 0⟩, ⟨3, 10, 6⟩] := worst_one HB7.out.1.ok.rise hws ⟨List.Perm.refl _, by decide⟩
  have HB8 := Lib.hid (show BkAt w9 p b 5 [⟨1, 5, 0⟩, ⟨3, 10, 6⟩] ∧ Grows w w9 from ⟨HB7.out.1.grow hg9, Grows.trans HB7.out.2.1 hg9⟩)
  have HRW := Lib.hid (show w9.ownsRow w8.heap.size 3 1 (.slice A11 2 c11) 2 [.int .i64 1, .int .i64 3] from hro)
  have HG9 := Lib.hid hg9
  clear hws hro hg9
  show _
  have HC9 := Lib.hid (show Calls Try.prog 14 #[.pointer (some ⟨p, 0, none⟩), .int .i64 1] w9 (BkTo0 w9 p b 5 [⟨3, 10, 6⟩] true) from by
    have h0 := drop_use HB8.out.1 (k := 1) (by decide) (by decide)
    rw [show dropU 1 [⟨1, 5, 0⟩, ⟨3, 10, 6⟩] = [⟨3, 10, 6⟩] from by decide, show hasU 1 [⟨1, 5, 0⟩, ⟨3, 10, 6⟩] = true from by decide] at h0
    exact h0)
  go_wp2_with (fail)
  refine HC9.out.mono ?_
  rintro e w10 ⟨rfl, hb, hs⟩
  have HB9 := Lib.hid (show BkAt w10 p b 6 [⟨3, 10, 6⟩] ∧ Grows w w10 from ⟨hb, grow_book HB8.out.2 hs HB0.out.2.2⟩)
  have HS9 := Lib.hid hs
  clear hb hs
  have HC10 := Lib.hid (show Calls Try.prog 14 #[.pointer (some ⟨p, 0, none⟩), .int .i64 1] w10 (BkTo0 w10 p b 6 [⟨3, 10, 6⟩] false) from by
    have h0 := drop_use HB9.out.1 (k := 1) (by decide) (by decide)
    rw [show dropU 1 [⟨3, 10, 6⟩] = [⟨3, 10, 6⟩] from by decide, show hasU 1 [⟨3, 10, 6⟩] = false from by decide] at h0
    exact h0)
  go_wp2_with (fail)
  refine HC10.out.mono ?_
  rintro e w11 ⟨rfl, hb, hs⟩
  have HB10 := Lib.hid (show BkAt w11 p b 7 [⟨3, 10, 6⟩] ∧ Grows w w11 from ⟨hb, grow_book HB9.out.2 hs HB0.out.2.2⟩)
  have HS10 := Lib.hid hs
  clear hb hs
  have hb7 : b < w7.heap.size := by
    have h1 := HB5.out.1.ltb
    have h2 := HG76.out.size
    omega
  have hs911 : Spares (fun k => k = b) w9 w11 := HS9.out.trans HS10.out
  have hs711 : Spares (fun k => k = b) W7 w11 := (Spares.grows (Grows.trans HB7.out.2.2 HG9.out)).trans hs911
  have HU := Lib.hid (show Whole w11 w7.heap.size 34 #[.int .i64 3, .int .i64 10, .int .i64 6] from (hs711.same _ HU7.out.lt (by omega)).trans HU7.out)
  have hb8 : b < w8.heap.size := HB7.out.1.ltb
  have hrw : w11.ownsRow w8.heap.size 3 1 (.slice A11 2 c11) 2 [.int .i64 1, .int .i64 3] := owned_same3 HRW.out fun k hk => hs911.same k (owned_lt3 HRW.out hk).2 (by have := (owned_lt3 HRW.out hk).1; omega)
  have hra := row_segs (xs := [1, 3]) rfl hrw
  have HSI := Lib.hid (fun w' (hC : Grows w11 w') g (hg : Whole w' g 3 #[.int .i64 1, .int .i64 3]) => show Calls Try.prog 25 #[.slice A11 2 c11, .slice (some ⟨g, 0, none⟩) 2 2] w' fun e w'' => e = .returned (.bool true) ∧ Grows w' w'' from
    same_intsB A11 2 c11 (some ⟨g, 0, none⟩) 2 2 [1, 3] [1, 3] w' (hC.row hra) (Rs.lit (enc := fun x => [intB x]) (k := 1) (fun _ => rfl) hg [1, 3] rfl (n := 2) rfl).row (by decide))
  have HAL := Lib.hid (fun w' (hC : Grows w11 w') => show Calls Try.prog 23 #[.pointer (some ⟨p, 0, none⟩)] w' fun e w'' => Grows w' w'' ∧ ∃ x, e = .returned ((usFact 1 [⟨3, 10, 6⟩]).val x) ∧ (usFact 1 [⟨3, 10, 6⟩]).R x w'' from
    (all_use (HB10.out.1.grow hC) (by decide)).mono fun e w'' ⟨A, c, he, ho, hg⟩ => ⟨hg, (A, c), he, Rs.owned usL rfl ho⟩)
  have HSU := Lib.hid (fun w' (hC : Grows w11 w') A c g (h1 : Uss w' A 1 c [⟨3, 10, 6⟩]) (h2 : Whole w' g 34 #[.int .i64 3, .int .i64 10, .int .i64 6]) => show Calls Try.prog 22 #[.slice A 1 c, .slice (some ⟨g, 0, none⟩) 1 1] w' fun e w'' => e = .returned (.bool true) ∧ Grows w' w'' from
    same_uses A 1 c (some ⟨g, 0, none⟩) 1 1 [⟨3, 10, 6⟩] [⟨3, 10, 6⟩] w' h1 (Rs.lit usL h2 [⟨3, 10, 6⟩] rfl rfl) (by decide))
  have HPN := Lib.hid (fun w' (hC : Grows w11 w') => show Calls Try.prog 16 #[.pointer (some ⟨p, 0, none⟩), .int .i64 (-1), .int .i64 0, .bool true] w' fun e w'' => e = .returned (.bool false) ∧ Grows w' w'' from
    (put_use (HB10.out.1.grow hC) (by decide) (k := -1) (by decide) (by decide) 0 true).mono fun e w'' h => ⟨h.1.1, h.2 (by decide)⟩)
  have HE := Lib.hid (fun w => show (Op.equalIn 10000 34 (.agg #[.int .i64 3, .int .i64 10, .int .i64 6]) (.agg #[.int .i64 3, .int .i64 10, .int .i64 6])).run Try.prog w = .ok true w from by
    rw [eq_use3]; rfl)
  clear hb7 hs911 hs711 hb8 hrw hra
  go_wp2_with (fail)
  refine wp_region_facts (E := Grows) [valFact (.bool true), valFact (.bool true), valFact (.bool true), valFact (.bool true), valFact (.bool true), valFact (.bool true), valFact (.bool true), valFact (.bool true), valFact (.bool false), valFact (.bool true), valFact (.bool true), valFact (.bool true), valFact (.bool false), valFact (.bool true), valFact (.bool true), valFact (.bool true), valFact (.agg #[.int .i64 3, .int .i64 10, .int .i64 6]), valFact (.agg #[.int .i64 3, .int .i64 10, .int .i64 6]), valFact (.bool true), valFact (.bool true), valFact (.bool true), valFact (.bool true), valFact (.bool true), valFact (.bool true), valFact (.int .i64 15), valFact (.bool true), valFact (.bool true), valFact (.bool true), valFact (.int .i64 6), valFact (.bool true), valFact (.bool true), valFact (.bool true), valFact (.slice A11 2 c11), blkFact (3) (#[.int .i64 1, .int .i64 3]) 2, valFact (.bool true), valFact (.bool true), valFact (.bool true), valFact (.bool true), valFact (.bool true), valFact (.bool true), valFact (.bool false), valFact (.bool true), valFact (.bool true), valFact (.bool true), valFact (.pointer (some ⟨p, 0, none⟩)), usFact 1 [⟨3, 10, 6⟩], valFact (.agg #[.int .i64 3, .int .i64 10, .int .i64 6]), blkFact (34) (#[.int .i64 3, .int .i64 10, .int .i64 6]) 1, valFact (.bool true), valFact (.bool true), valFact (.bool true), valFact (.pointer (some ⟨p, 0, none⟩)), valFact (.bool false), valFact (.bool true), valFact (.bool true), valFact (.bool true)] (by kernel_rfl) (by kernel_rfl) (fun _ _ _ => Grows.trans) (grows_drew _) ?_
  refine f_val (.bool true) (by rfl) ?_ ?_
  · intro w' hC; clear hC; go_simp
  simp only [Act.put, List.setIfInBounds_toArray, List.set_cons_zero, List.set_cons_succ]
  refine f_val (.bool true) (by rfl) ?_ ?_
  · intro w' hC; clear hC; go_simp
  simp only [Act.put, List.setIfInBounds_toArray, List.set_cons_zero, List.set_cons_succ]
  refine f_val (.bool true) (by rfl) ?_ ?_
  · intro w' hC; clear hC; go_simp
  simp only [Act.put, List.setIfInBounds_toArray, List.set_cons_zero, List.set_cons_succ]
  refine f_val (.bool true) (by rfl) ?_ ?_
  · intro w' hC; clear hC; go_simp
  simp only [Act.put, List.setIfInBounds_toArray, List.set_cons_zero, List.set_cons_succ]
  refine f_val (.bool true) (by rfl) ?_ ?_
  · intro w' hC; clear hC; go_simp
  simp only [Act.put, List.setIfInBounds_toArray, List.set_cons_zero, List.set_cons_succ]
  refine f_val (.bool true) (by rfl) ?_ ?_
  · intro w' hC; clear hC; go_simp
  simp only [Act.put, List.setIfInBounds_toArray, List.set_cons_zero, List.set_cons_succ]
  refine f_val (.bool true) (by rfl) ?_ ?_
  · intro w' hC; clear hC; go_simp
  simp only [Act.put, List.setIfInBounds_toArray, List.set_cons_zero, List.set_cons_succ]
  refine f_val (.bool true) (by rfl) ?_ ?_
  · intro w' hC; clear hC; go_simp
  simp only [Act.put, List.setIfInBounds_toArray, List.set_cons_zero, List.set_cons_succ]
  refine f_val (.bool false) (by rfl) ?_ ?_
  · intro w' hC; clear hC; go_simp
  simp only [Act.put, List.setIfInBounds_toArray, List.set_cons_zero, List.set_cons_succ]
  refine f_val (.bool true) (by rfl) ?_ ?_
  · intro w' hC; clear hC; go_simp
  simp only [Act.put, List.setIfInBounds_toArray, List.set_cons_zero, List.set_cons_succ]
  refine f_val (.bool true) (by rfl) ?_ ?_
  · intro w' hC; clear hC; go_simp
  simp only [Act.put, List.setIfInBounds_toArray, List.set_cons_zero, List.set_cons_succ]
  refine f_val (.bool true) (by rfl) ?_ ?_
  · intro w' hC; clear hC; go_simp
  simp only [Act.put, List.setIfInBounds_toArray, List.set_cons_zero, List.set_cons_succ]
  refine f_val (.bool false) (by rfl) ?_ ?_
  · intro w' hC; clear hC; go_simp
  simp only [Act.put, List.setIfInBounds_toArray, List.set_cons_zero, List.set_cons_succ]
  refine f_val (.bool true) (by rfl) ?_ ?_
  · intro w' hC; clear hC; go_simp
  simp only [Act.put, List.setIfInBounds_toArray, List.set_cons_zero, List.set_cons_succ]
  refine f_val (.bool true) (by rfl) ?_ ?_
  · intro w' hC; clear hC; go_simp
  simp only [Act.put, List.setIfInBounds_toArray, List.set_cons_zero, List.set_cons_succ]
  refine f_val (.bool true) (by rfl) ?_ ?_
  · intro w' hC; clear hC; go_simp
  simp only [Act.put, List.setIfInBounds_toArray, List.set_cons_zero, List.set_cons_succ]
  refine f_val (.agg #[.int .i64 3, .int .i64 10, .int .i64 6]) (by rfl) ?_ ?_
  · intro w' hC; have q := hC.whole HU.out; have q0 := q.cell 0; have q1 := q.cell 1; have q2 := q.cell 2; simp only [List.getElem?_toArray, List.getElem?_cons_zero, List.getElem?_cons_succ] at q0 q1 q2; clear hC; go_simp
  simp only [Act.put, List.setIfInBounds_toArray, List.set_cons_zero, List.set_cons_succ]
  refine f_val (.agg #[.int .i64 3, .int .i64 10, .int .i64 6]) (by rfl) ?_ ?_
  · intro w' hC; clear hC; go_simp
  simp only [Act.put, List.setIfInBounds_toArray, List.set_cons_zero, List.set_cons_succ]
  refine f_val (.bool true) (by rfl) ?_ ?_
  · intro w' hC; have e := HE.out w'; clear hC; go_simp
  simp only [Act.put, List.setIfInBounds_toArray, List.set_cons_zero, List.set_cons_succ]
  refine f_val (.bool true) (by rfl) ?_ ?_
  · intro w' hC; clear hC; go_simp
  simp only [Act.put, List.setIfInBounds_toArray, List.set_cons_zero, List.set_cons_succ]
  refine f_val (.bool true) (by rfl) ?_ ?_
  · intro w' hC; clear hC; go_simp
  simp only [Act.put, List.setIfInBounds_toArray, List.set_cons_zero, List.set_cons_succ]
  refine f_val (.bool true) (by rfl) ?_ ?_
  · intro w' hC; clear hC; go_simp
  simp only [Act.put, List.setIfInBounds_toArray, List.set_cons_zero, List.set_cons_succ]
  refine f_val (.bool true) (by rfl) ?_ ?_
  · intro w' hC; clear hC; go_simp
  simp only [Act.put, List.setIfInBounds_toArray, List.set_cons_zero, List.set_cons_succ]
  refine f_val (.bool true) (by rfl) ?_ ?_
  · intro w' hC; clear hC; go_simp
  simp only [Act.put, List.setIfInBounds_toArray, List.set_cons_zero, List.set_cons_succ]
  refine f_val (.int .i64 15) (by rfl) ?_ ?_
  · intro w' hC; clear hC; go_simp
  simp only [Act.put, List.setIfInBounds_toArray, List.set_cons_zero, List.set_cons_succ]
  refine f_val (.bool true) (by rfl) ?_ ?_
  · intro w' hC; clear hC; go_simp
  simp only [Act.put, List.setIfInBounds_toArray, List.set_cons_zero, List.set_cons_succ]
  refine f_val (.bool true) (by rfl) ?_ ?_
  · intro w' hC; clear hC; go_simp
  simp only [Act.put, List.setIfInBounds_toArray, List.set_cons_zero, List.set_cons_succ]
  refine f_val (.bool true) (by rfl) ?_ ?_
  · intro w' hC; clear hC; go_simp
  simp only [Act.put, List.setIfInBounds_toArray, List.set_cons_zero, List.set_cons_succ]
  refine f_val (.int .i64 6) (by rfl) ?_ ?_
  · intro w' hC; clear hC; go_simp
  simp only [Act.put, List.setIfInBounds_toArray, List.set_cons_zero, List.set_cons_succ]
  refine f_val (.bool true) (by rfl) ?_ ?_
  · intro w' hC; clear hC; go_simp
  simp only [Act.put, List.setIfInBounds_toArray, List.set_cons_zero, List.set_cons_succ]
  refine f_val (.bool true) (by rfl) ?_ ?_
  · intro w' hC; clear hC; go_simp
  simp only [Act.put, List.setIfInBounds_toArray, List.set_cons_zero, List.set_cons_succ]
  refine f_val (.bool true) (by rfl) ?_ ?_
  · intro w' hC; clear hC; go_simp
  simp only [Act.put, List.setIfInBounds_toArray, List.set_cons_zero, List.set_cons_succ]
  refine f_val (.slice A11 2 c11) (by rfl) ?_ ?_
  · intro w' hC; clear hC; go_simp
  simp only [Act.put, List.setIfInBounds_toArray, List.set_cons_zero, List.set_cons_succ]
  refine f_made (3) (#[.int .i64 1, .int .i64 3]) 2 (by rfl) ?_ ?_
  · intro w' hC; clear hC; go_simp
  intro g1
  simp only [Act.put, List.setIfInBounds_toArray, List.set_cons_zero, List.set_cons_succ]
  refine f_call 25 #[.slice A11 2 c11, .slice (some ⟨g1, 0, none⟩) 2 2] (.bool true) (by rfl) (by intro w' hC; clear hC; go_simp) ?_ ?_
  · intro w' hC hks
    have hg := Known.get hks 0 rfl rfl
    exact HSI.out w' hC g1 hg
  simp only [Act.put, List.setIfInBounds_toArray, List.set_cons_zero, List.set_cons_succ]
  refine f_val (.bool true) (by rfl) ?_ ?_
  · intro w' hC; clear hC; go_simp
  simp only [Act.put, List.setIfInBounds_toArray, List.set_cons_zero, List.set_cons_succ]
  refine f_val (.bool true) (by rfl) ?_ ?_
  · intro w' hC; clear hC; go_simp
  simp only [Act.put, List.setIfInBounds_toArray, List.set_cons_zero, List.set_cons_succ]
  refine f_val (.bool true) (by rfl) ?_ ?_
  · intro w' hC; clear hC; go_simp
  simp only [Act.put, List.setIfInBounds_toArray, List.set_cons_zero, List.set_cons_succ]
  refine f_val (.bool true) (by rfl) ?_ ?_
  · intro w' hC; clear hC; go_simp
  simp only [Act.put, List.setIfInBounds_toArray, List.set_cons_zero, List.set_cons_succ]
  refine f_val (.bool true) (by rfl) ?_ ?_
  · intro w' hC; clear hC; go_simp
  simp only [Act.put, List.setIfInBounds_toArray, List.set_cons_zero, List.set_cons_succ]
  refine f_val (.bool false) (by rfl) ?_ ?_
  · intro w' hC; clear hC; go_simp
  simp only [Act.put, List.setIfInBounds_toArray, List.set_cons_zero, List.set_cons_succ]
  refine f_val (.bool true) (by rfl) ?_ ?_
  · intro w' hC; clear hC; go_simp
  simp only [Act.put, List.setIfInBounds_toArray, List.set_cons_zero, List.set_cons_succ]
  refine f_val (.bool true) (by rfl) ?_ ?_
  · intro w' hC; clear hC; go_simp
  simp only [Act.put, List.setIfInBounds_toArray, List.set_cons_zero, List.set_cons_succ]
  refine f_val (.bool true) (by rfl) ?_ ?_
  · intro w' hC; clear hC; go_simp
  simp only [Act.put, List.setIfInBounds_toArray, List.set_cons_zero, List.set_cons_succ]
  refine f_val (.pointer (some ⟨p, 0, none⟩)) (by rfl) ?_ ?_
  · intro w' hC; clear hC; go_simp
  simp only [Act.put, List.setIfInBounds_toArray, List.set_cons_zero, List.set_cons_succ]
  refine f_callG (F := usFact 1 [⟨3, 10, 6⟩]) 23 #[.pointer (some ⟨p, 0, none⟩)] (by rfl) (by intro w' hC; clear hC; go_simp) ?_ ?_
  · intro w' hC
    exact HAL.out w' hC
  rintro ⟨HA, hcp⟩
  dsimp only [usFact]
  simp only [Act.put, List.setIfInBounds_toArray, List.set_cons_zero, List.set_cons_succ]
  refine f_val (.agg #[.int .i64 3, .int .i64 10, .int .i64 6]) (by rfl) ?_ ?_
  · intro w' hC; have q := hC.whole HU.out; have q0 := q.cell 0; have q1 := q.cell 1; have q2 := q.cell 2; simp only [List.getElem?_toArray, List.getElem?_cons_zero, List.getElem?_cons_succ] at q0 q1 q2; clear hC; go_simp
  simp only [Act.put, List.setIfInBounds_toArray, List.set_cons_zero, List.set_cons_succ]
  refine f_made (34) (#[.int .i64 3, .int .i64 10, .int .i64 6]) 1 (by rfl) ?_ ?_
  · intro w' hC; clear hC; go_simp
  intro g2
  simp only [Act.put, List.setIfInBounds_toArray, List.set_cons_zero, List.set_cons_succ]
  refine f_call 22 #[.slice HA 1 hcp, .slice (some ⟨g2, 0, none⟩) 1 1] (.bool true) (by rfl) (by intro w' hC; clear hC; go_simp) ?_ ?_
  · intro w' hC hks
    exact HSU.out w' hC HA hcp g2 (Known.get hks 1 rfl rfl) (Known.get hks 0 rfl rfl)
  simp only [Act.put, List.setIfInBounds_toArray, List.set_cons_zero, List.set_cons_succ]
  refine f_val (.bool true) (by rfl) ?_ ?_
  · intro w' hC; clear hC; go_simp
  simp only [Act.put, List.setIfInBounds_toArray, List.set_cons_zero, List.set_cons_succ]
  refine f_val (.bool true) (by rfl) ?_ ?_
  · intro w' hC; clear hC; go_simp
  simp only [Act.put, List.setIfInBounds_toArray, List.set_cons_zero, List.set_cons_succ]
  refine f_val (.pointer (some ⟨p, 0, none⟩)) (by rfl) ?_ ?_
  · intro w' hC; clear hC; go_simp
  simp only [Act.put, List.setIfInBounds_toArray, List.set_cons_zero, List.set_cons_succ]
  refine f_call 16 #[.pointer (some ⟨p, 0, none⟩), .int .i64 (-1), .int .i64 0, .bool true] (.bool false) (by rfl) (by intro w' hC; clear hC; go_simp) ?_ ?_
  · intro w' hC _; exact HPN.out w' hC
  simp only [Act.put, List.setIfInBounds_toArray, List.set_cons_zero, List.set_cons_succ]
  refine f_val (.bool true) (by rfl) ?_ ?_
  · intro w' hC; clear hC; go_simp
  simp only [Act.put, List.setIfInBounds_toArray, List.set_cons_zero, List.set_cons_succ]
  refine f_val (.bool true) (by rfl) ?_ ?_
  · intro w' hC; clear hC; go_simp
  simp only [Act.put, List.setIfInBounds_toArray, List.set_cons_zero, List.set_cons_succ]
  refine f_val (.bool true) (by rfl) ?_ ?_
  · intro w' hC; clear hC; go_simp
  simp only [Act.put, List.setIfInBounds_toArray, List.set_cons_zero, List.set_cons_succ]
  refine wpF_end ?_
  intro w14 hC hks
  have HCw14 := Lib.hid hC
  clear hC hks
  go_wp2_with (fail)
  go_ret
  exact ⟨rfl, Grows.trans HB10.out.2 HCw14.out⟩
end Go.Proofs.Ytlldcogkcjnejaa
