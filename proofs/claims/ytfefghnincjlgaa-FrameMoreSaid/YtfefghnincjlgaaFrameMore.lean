/-
  FrameMore holds of any two runs of bytes: a body's length is told twice, frames of bodies of one length begin alike, a frame is eight bytes longer than its body, and unlike bodies have unlike frames; no condition.
-/
import Derived.Test.YtfefghnincjlgaaHead2
import Derived.Test.YtfefghnincjlgaaFrameFacts
import Derived.Test.YtfefghnincjlgaaCame
import Derived.RegionTactic
import Derived.BigRegion
namespace Go.Proofs.Ytfefghnincjlgaa
open Go.ChangeShapes Go.WideShapes Go.ChangeAt Go.RowKit

theorem frameB_inj {x y : List UInt8} (h : x.length = y.length) (hf : frameB x = frameB y) : x = y := by
  unfold frameB at hf
  rw [h] at hf
  have h1 := List.append_inj_left hf (by simp [h])
  exact List.append_cancel_left h1
theorem head_bits (k : Nat) (hk : k ≤ 8192) {b0 b1 b2 b3 : UInt8} (hh : headB k = [b0, b1, b2, b3]) :
    bits BinOp.xor IntKind.u8 (b0.toNat : Nat) (b2.toNat : Nat) = 255 ∧ bits BinOp.xor IntKind.u8 (b1.toNat : Nat) (b3.toNat : Nat) = 255 ∧ 256 * b0.toNat + b1.toNat = k := by
  unfold headB at hh
  simp only [List.cons.injEq, and_true] at hh
  obtain ⟨rfl, rfl, rfl, rfl⟩ := hh
  have key : ∀ x : Nat, x < 256 → bits BinOp.xor IntKind.u8 (x : Int) ((255 - x : Nat) : Int) = 255 := fun x hx => by
    have h := not_u8 x hx
    have h2 := u8_xor 255 x (by omega) hx
    have h3 : (255 ^^^ x : Nat) = 255 - x := by
      have := h2.symm.trans (show bits BinOp.xor IntKind.u8 ((255 : Nat) : Int) (x : Int) = ((255 - x : Nat) : Int) from h)
      omega
    rw [u8_xor x (255 - x) hx (by omega), ← h3, Nat.xor_comm 255 x, ← Nat.xor_assoc, Nat.xor_self, Nat.zero_xor]
    rfl
  simp only [UInt8.toNat_ofNat']
  refine ⟨?_, ?_, by omega⟩
  · rw [show (255 - k / 256 % 256) % 2 ^ 8 = 255 - (k / 256 % 2 ^ 8) by omega]
    exact key _ (by omega)
  · rw [show (255 - k % 256) % 2 ^ 8 = 255 - (k % 2 ^ 8) by omega]
    exact key _ (by omega)

set_option maxRecDepth 100000 in
set_option maxHeartbeats 16000000 in
theorem more_lt_in {w : World} (A : Option Addr) (n c : Nat) (xs : List UInt8) (hc : Came w A n c xs) (B : Option Addr) (m d : Nat) (ys : List UInt8) (hd : Came w B m d ys) (hlt : n < m) (hf : 1 ≤ n ∧ n ≤ 8192) :
    Calls Try.prog 8 #[.slice A n c, .slice B m d] w fun e w' => e = .returned (.bool true) ∧ Below w.heap.size w w' := by
  have hl := hc.bytes.len
  have hl2 := hd.bytes.len
  have hreach := hc.reach
  have hcap := hc.cap
  have hreach2 := hd.reach
  have hcap2 := hd.cap
  have HC := Lib.hid hc.sl
  have HD := Lib.hid hd.sl
  clear hc hd
  have k0 : (0 : Int) ≤ (n : Int) := by omega
  have k1 : (n : Int) ≤ (c : Int) := by omega
  have k2 : (n : Int) ≤ (d : Int) := by omega
  have k3 : decide ((n : Int) < (m : Int)) = true := by simp; omega
  have hx : (xs.take n).length = n := by rw [List.length_take]; omega
  have hy : (ys.take n).length = n := by rw [List.length_take]; omega
  have hk0 : (((n : Nat) : Int) == 0) = false := by simp; omega
  have hk8 : decide ((8192 : Int) < (n : Int)) = false := by simp; omega
  go_enter Try.func8, Try.ntmps8
  go_wp2_with (fail)
  refine (head2_any _).mono ?_
  rintro e w1 ⟨rfl, hb1⟩
  have HG1 := Lib.hid (show Grows w w1 from hb1)
  clear hb1
  go_wp2_with (fail)
  refine (put_any A n c (xs.take n) w1 ((HC.out.grow HG1.out).first (by omega)) (by unfold maxLen; omega)).mono ?_
  rintro e w2 ⟨A2, m2, c2, rfl, hs2, hb2⟩
  have hput : putB (xs.take n) = frameB (xs.take n) := by unfold putB; rw [hx, if_pos hf]
  have hm := hs2.len
  rw [hput] at hs2
  rw [hput, frameB_length, hx] at hm
  subst hm
  have HS2 := Lib.hid hs2
  have HG2 := Lib.hid (Grows.trans HG1.out hb2)
  clear hs2 hb2 hput HG1
  go_wp2_with (fail)
  refine (put_any B n d (ys.take n) w2 ((HD.out.grow HG2.out).first (by omega)) (by unfold maxLen; omega)).mono ?_
  rintro e w3 ⟨A3, m3, c3, rfl, hs3, hb3⟩
  have hput : putB (ys.take n) = frameB (ys.take n) := by unfold putB; rw [hy, if_pos hf]
  have hm := hs3.len
  rw [hput] at hs3
  rw [hput, frameB_length, hy] at hm
  subst hm
  have hs2 := HS2.out.grow hb3
  have HG3 := Lib.hid (Grows.trans HG2.out hb3)
  clear hb3 hput HG2 HS2
  obtain ⟨b0, b1, b2, b3, hh⟩ := four (headB_length n)
  have e2 : frameB (xs.take n) = b0 :: b1 :: b2 :: b3 :: (xs.take n ++ tailB (headB n ++ xs.take n)) := by unfold frameB; rw [hx, hh]; simp
  have e3 : frameB (ys.take n) = b0 :: b1 :: b2 :: b3 :: (ys.take n ++ tailB (headB n ++ ys.take n)) := by unfold frameB; rw [hy, hh]; simp
  have HX := Lib.hid (HC.out.grow HG3.out)
  have HY := Lib.hid (HD.out.grow HG3.out)
  have t2 := fun w' (hw : Grows w3 w') => run_string ((hs2.grow hw).first (k := 4) (by omega))
  have t3 := fun w' (hw : Grows w3 w') => run_string ((hs3.grow hw).first (k := 4) (by omega))
  rw [show (frameB (xs.take n)).take 4 = [b0, b1, b2, b3] by rw [e2]; rfl] at t2
  rw [show (frameB (ys.take n)).take 4 = [b0, b1, b2, b3] by rw [e3]; rfl] at t3
  have u2 := fun w' (hw : Grows w3 w') => run_string (hs2.grow hw)
  have u3 := fun w' (hw : Grows w3 w') => run_string (hs3.grow hw)
  have u4 := fun w' (hw : Grows w3 w') => run_string ((HX.out.grow hw).first (k := n) (by omega))
  have u5 := fun w' (hw : Grows w3 w') => run_string ((HY.out.grow hw).first (k := n) (by omega))
  have hsame : (frameB (xs.take n) == frameB (ys.take n)) = (xs.take n == ys.take n) := by
    by_cases h : xs.take n = ys.take n
    · rw [h]; simp
    · rw [beq_eq_false_iff_ne.2 h, beq_eq_false_iff_ne]
      intro h'
      exact h (frameB_inj (by rw [hx, hy]) h')
  obtain ⟨ad, rfl⟩ : ∃ ad, A2 = some ad := by
    obtain ⟨ad, h, _⟩ := hs2.bytes.spot (k := 0) (by omega)
    exact ⟨ad, h⟩
  have hc4 : (4 : Int) ≤ (c2 : Int) := by have := hs2.cap; omega
  have hd4 : (4 : Int) ≤ (c3 : Int) := by have := hs3.cap; omega
  rw [e2] at hs2
  have q0 := fun w' (hw : Grows w3 w') => (first_cells (hs2.grow hw)).2.1
  have q1 := fun w' (hw : Grows w3 w') => (first_cells (hs2.grow hw)).2.2.1
  have q2 := fun w' (hw : Grows w3 w') => (first_cells (hs2.grow hw)).2.2.2.1
  have q3 := fun w' (hw : Grows w3 w') => (first_cells (hs2.grow hw)).2.2.2.2
  obtain ⟨x0, x1, x2⟩ := head_bits n hf.2 hh
  have k8 : IntKind.i64.wrap ((n : Int) + 8) = (n : Int) + 8 := IntWalk.i64_in _ (by omega)
  have i0 : (0 : Int) < (n : Int) + 8 := by omega
  have i1 : (1 : Int) < (n : Int) + 8 := by omega
  have i2 : (2 : Int) < (n : Int) + 8 := by omega
  have i3 : (3 : Int) < (n : Int) + 8 := by omega
  have x3 := b0.toNat_lt
  have x4 := b1.toNat_lt
  have x5 : 256 * (b0.toNat : Int) + (b1.toNat : Int) = (n : Int) := by omega
  generalize frameB (xs.take n) = f1 at *
  generalize frameB (ys.take n) = f2 at *
  generalize xs.take n = y1 at *
  generalize ys.take n = y2 at *
  generalize b0.toNat = m0 at *
  generalize b1.toNat = m1 at *
  have w0 : IntKind.i64.wrap (m0 : Int) = (m0 : Int) := IntWalk.i64_in _ (by omega)
  have w1 : IntKind.i64.wrap (m1 : Int) = (m1 : Int) := IntWalk.i64_in _ (by omega)
  have w2 : IntKind.i64.wrap (256 * (m0 : Int)) = 256 * (m0 : Int) := IntWalk.i64_in _ (by omega)
  have w4 : IntKind.i64.wrap (256 * (m0 : Int) + (m1 : Int)) = (n : Int) := (IntWalk.i64_in _ (by omega)).trans x5
  clear hs2 hs3 e2 e3 x2 x5 HX HY hh hx hy
  go_wp2_with (fail)
  refine q_region (by kernel_rfl) (by kernel_rfl) ?_
  iterate 69 (first
    | (refine q_op' (v := ?_) (a' := ?_) (by rfl) ?_ ?_ ?_
       rotate_left 2
       · intro w' hC
         go_simp
         try with_reducible rfl
       · simp only [Act.put, List.setIfInBounds_toArray, List.set_cons_zero, List.set_cons_succ]
         try rfl)
    | (refine q_skip' (a' := ?_) (by rfl) ?_ ?_
       rotate_left 1
       · simp only [Act.put, List.setIfInBounds_toArray, List.set_cons_zero, List.set_cons_succ]
         try rfl))
  refine wpQuiet_nil ?_
  intro w4 hC
  have HG4 := Lib.hid (Grows.trans HG3.out hC)
  clear hC
  go_wp2_with (fail)
  go_ret
  exact ⟨by simp, HG4.out⟩

set_option maxRecDepth 100000 in
set_option maxHeartbeats 2000000 in
theorem more_lt_out {w : World} (A : Option Addr) (n c : Nat) (xs : List UInt8) (hc : Came w A n c xs) (B : Option Addr) (m d : Nat) (ys : List UInt8) (hd : Came w B m d ys) (hlt : n < m) (hf : ¬ (1 ≤ n ∧ n ≤ 8192)) :
    Calls Try.prog 8 #[.slice A n c, .slice B m d] w fun e w' => e = .returned (.bool true) ∧ Below w.heap.size w w' := by
  have hl := hc.bytes.len
  have hl2 := hd.bytes.len
  have hreach := hc.reach
  have hcap := hc.cap
  have hreach2 := hd.reach
  have hcap2 := hd.cap
  have HC := Lib.hid hc.sl
  have HD := Lib.hid hd.sl
  clear hc hd
  have k0 : (0 : Int) ≤ (n : Int) := by omega
  have k1 : (n : Int) ≤ (c : Int) := by omega
  have k2 : (n : Int) ≤ (d : Int) := by omega
  have k3 : decide ((n : Int) < (m : Int)) = true := by simp; omega
  have hx : (xs.take n).length = n := by rw [List.length_take]; omega
  have hy : (ys.take n).length = n := by rw [List.length_take]; omega
  have hzero : n = 0 ∨ 8192 < n := by omega
  have hput1 : putB (xs.take n) = [] := by unfold putB; rw [hx, if_neg hf]
  have hput2 : putB (ys.take n) = [] := by unfold putB; rw [hy, if_neg hf]
  rcases hzero with hzero | hzero
  · have hk0 : (((n : Nat) : Int) == 0) = true := by simp; omega
    have HZ0 := Lib.hid hzero
    clear hzero
    go_enter Try.func8, Try.ntmps8
    go_wp2_with (fail)
    refine (head2_any _).mono ?_
    rintro e w1 ⟨rfl, hb1⟩
    have HG1 := Lib.hid (show Grows w w1 from hb1)
    clear hb1
    go_wp2_with (fail)
    refine (put_any A n c (xs.take n) w1 ((HC.out.grow HG1.out).first (by omega)) (by unfold maxLen; omega)).mono ?_
    rintro e w2 ⟨A2, m2, c2, rfl, hs2, hb2⟩
    have hm := hs2.len
    rw [hput1] at hm
    change 0 = m2 at hm
    subst hm
    have HG2 := Lib.hid (Grows.trans HG1.out hb2)
    clear hs2 hb2 HG1
    go_wp2_with (fail)
    refine (put_any B n d (ys.take n) w2 ((HD.out.grow HG2.out).first (by omega)) (by unfold maxLen; omega)).mono ?_
    rintro e w3 ⟨A3, m3, c3, rfl, hs3, hb3⟩
    have hm := hs3.len
    rw [hput2] at hm
    change 0 = m3 at hm
    subst hm
    have HG3 := Lib.hid (Grows.trans HG2.out hb3)
    clear hs3 hb3 HG2
    go_wp2_with (fail)
    go_ret
    exact ⟨rfl, HG3.out⟩
  · have hk0 : (((n : Nat) : Int) == 0) = false := by simp; omega
    have hk8 : decide ((8192 : Int) < (n : Int)) = true := by simp; omega
    have HZ0 := Lib.hid hzero
    clear hzero
    go_enter Try.func8, Try.ntmps8
    go_wp2_with (fail)
    refine (head2_any _).mono ?_
    rintro e w1 ⟨rfl, hb1⟩
    have HG1 := Lib.hid (show Grows w w1 from hb1)
    clear hb1
    go_wp2_with (fail)
    refine (put_any A n c (xs.take n) w1 ((HC.out.grow HG1.out).first (by omega)) (by unfold maxLen; omega)).mono ?_
    rintro e w2 ⟨A2, m2, c2, rfl, hs2, hb2⟩
    have hm := hs2.len
    rw [hput1] at hm
    change 0 = m2 at hm
    subst hm
    have HG2 := Lib.hid (Grows.trans HG1.out hb2)
    clear hs2 hb2 HG1
    go_wp2_with (fail)
    refine (put_any B n d (ys.take n) w2 ((HD.out.grow HG2.out).first (by omega)) (by unfold maxLen; omega)).mono ?_
    rintro e w3 ⟨A3, m3, c3, rfl, hs3, hb3⟩
    have hm := hs3.len
    rw [hput2] at hm
    change 0 = m3 at hm
    subst hm
    have HG3 := Lib.hid (Grows.trans HG2.out hb3)
    clear hs3 hb3 HG2
    go_wp2_with (fail)
    go_ret
    exact ⟨rfl, HG3.out⟩

set_option maxRecDepth 100000 in
set_option maxHeartbeats 16000000 in
theorem more_gt_in {w : World} (A : Option Addr) (n c : Nat) (xs : List UInt8) (hc : Came w A n c xs) (B : Option Addr) (m d : Nat) (ys : List UInt8) (hd : Came w B m d ys) (hlt : m < n) (hf : 1 ≤ m ∧ m ≤ 8192) :
    Calls Try.prog 8 #[.slice A n c, .slice B m d] w fun e w' => e = .returned (.bool true) ∧ Below w.heap.size w w' := by
  have hl := hc.bytes.len
  have hl2 := hd.bytes.len
  have hreach := hc.reach
  have hcap := hc.cap
  have hreach2 := hd.reach
  have hcap2 := hd.cap
  have HC := Lib.hid hc.sl
  have HD := Lib.hid hd.sl
  clear hc hd
  have k0 : (0 : Int) ≤ (m : Int) := by omega
  have k1 : (m : Int) ≤ (c : Int) := by omega
  have k2 : (m : Int) ≤ (d : Int) := by omega
  have k3 : decide ((n : Int) < (m : Int)) = false := by simp; omega
  have k4 : decide ((m : Int) < (n : Int)) = true := by simp; omega
  have hx : (xs.take m).length = m := by rw [List.length_take]; omega
  have hy : (ys.take m).length = m := by rw [List.length_take]; omega
  have hk0 : (((m : Nat) : Int) == 0) = false := by simp; omega
  have hk8 : decide ((8192 : Int) < (m : Int)) = false := by simp; omega
  go_enter Try.func8, Try.ntmps8
  go_wp2_with (fail)
  refine (head2_any _).mono ?_
  rintro e w1 ⟨rfl, hb1⟩
  have HG1 := Lib.hid (show Grows w w1 from hb1)
  clear hb1
  go_wp2_with (fail)
  refine (put_any A m c (xs.take m) w1 ((HC.out.grow HG1.out).first (by omega)) (by unfold maxLen; omega)).mono ?_
  rintro e w2 ⟨A2, m2, c2, rfl, hs2, hb2⟩
  have hput : putB (xs.take m) = frameB (xs.take m) := by unfold putB; rw [hx, if_pos hf]
  have hm := hs2.len
  rw [hput] at hs2
  rw [hput, frameB_length, hx] at hm
  subst hm
  have HS2 := Lib.hid hs2
  have HG2 := Lib.hid (Grows.trans HG1.out hb2)
  clear hs2 hb2 hput HG1
  go_wp2_with (fail)
  refine (put_any B m d (ys.take m) w2 ((HD.out.grow HG2.out).first (by omega)) (by unfold maxLen; omega)).mono ?_
  rintro e w3 ⟨A3, m3, c3, rfl, hs3, hb3⟩
  have hput : putB (ys.take m) = frameB (ys.take m) := by unfold putB; rw [hy, if_pos hf]
  have hm := hs3.len
  rw [hput] at hs3
  rw [hput, frameB_length, hy] at hm
  subst hm
  have hs2 := HS2.out.grow hb3
  have HG3 := Lib.hid (Grows.trans HG2.out hb3)
  clear hb3 hput HG2 HS2
  obtain ⟨b0, b1, b2, b3, hh⟩ := four (headB_length m)
  have e2 : frameB (xs.take m) = b0 :: b1 :: b2 :: b3 :: (xs.take m ++ tailB (headB m ++ xs.take m)) := by unfold frameB; rw [hx, hh]; simp
  have e3 : frameB (ys.take m) = b0 :: b1 :: b2 :: b3 :: (ys.take m ++ tailB (headB m ++ ys.take m)) := by unfold frameB; rw [hy, hh]; simp
  have HX := Lib.hid (HC.out.grow HG3.out)
  have HY := Lib.hid (HD.out.grow HG3.out)
  have t2 := fun w' (hw : Grows w3 w') => run_string ((hs2.grow hw).first (k := 4) (by omega))
  have t3 := fun w' (hw : Grows w3 w') => run_string ((hs3.grow hw).first (k := 4) (by omega))
  rw [show (frameB (xs.take m)).take 4 = [b0, b1, b2, b3] by rw [e2]; rfl] at t2
  rw [show (frameB (ys.take m)).take 4 = [b0, b1, b2, b3] by rw [e3]; rfl] at t3
  have u2 := fun w' (hw : Grows w3 w') => run_string (hs2.grow hw)
  have u3 := fun w' (hw : Grows w3 w') => run_string (hs3.grow hw)
  have u4 := fun w' (hw : Grows w3 w') => run_string ((HX.out.grow hw).first (k := m) (by omega))
  have u5 := fun w' (hw : Grows w3 w') => run_string ((HY.out.grow hw).first (k := m) (by omega))
  have hsame : (frameB (xs.take m) == frameB (ys.take m)) = (xs.take m == ys.take m) := by
    by_cases h : xs.take m = ys.take m
    · rw [h]; simp
    · rw [beq_eq_false_iff_ne.2 h, beq_eq_false_iff_ne]
      intro h'
      exact h (frameB_inj (by rw [hx, hy]) h')
  obtain ⟨ad, rfl⟩ : ∃ ad, A2 = some ad := by
    obtain ⟨ad, h, _⟩ := hs2.bytes.spot (k := 0) (by omega)
    exact ⟨ad, h⟩
  have hc4 : (4 : Int) ≤ (c2 : Int) := by have := hs2.cap; omega
  have hd4 : (4 : Int) ≤ (c3 : Int) := by have := hs3.cap; omega
  rw [e2] at hs2
  have q0 := fun w' (hw : Grows w3 w') => (first_cells (hs2.grow hw)).2.1
  have q1 := fun w' (hw : Grows w3 w') => (first_cells (hs2.grow hw)).2.2.1
  have q2 := fun w' (hw : Grows w3 w') => (first_cells (hs2.grow hw)).2.2.2.1
  have q3 := fun w' (hw : Grows w3 w') => (first_cells (hs2.grow hw)).2.2.2.2
  obtain ⟨x0, x1, x2⟩ := head_bits m hf.2 hh
  have k8 : IntKind.i64.wrap ((m : Int) + 8) = (m : Int) + 8 := IntWalk.i64_in _ (by omega)
  have i0 : (0 : Int) < (m : Int) + 8 := by omega
  have i1 : (1 : Int) < (m : Int) + 8 := by omega
  have i2 : (2 : Int) < (m : Int) + 8 := by omega
  have i3 : (3 : Int) < (m : Int) + 8 := by omega
  have x3 := b0.toNat_lt
  have x4 := b1.toNat_lt
  have x5 : 256 * (b0.toNat : Int) + (b1.toNat : Int) = (m : Int) := by omega
  generalize frameB (xs.take m) = f1 at *
  generalize frameB (ys.take m) = f2 at *
  generalize xs.take m = y1 at *
  generalize ys.take m = y2 at *
  generalize b0.toNat = m0 at *
  generalize b1.toNat = m1 at *
  have w0 : IntKind.i64.wrap (m0 : Int) = (m0 : Int) := IntWalk.i64_in _ (by omega)
  have w1 : IntKind.i64.wrap (m1 : Int) = (m1 : Int) := IntWalk.i64_in _ (by omega)
  have w2 : IntKind.i64.wrap (256 * (m0 : Int)) = 256 * (m0 : Int) := IntWalk.i64_in _ (by omega)
  have w4 : IntKind.i64.wrap (256 * (m0 : Int) + (m1 : Int)) = (m : Int) := (IntWalk.i64_in _ (by omega)).trans x5
  clear hs2 hs3 e2 e3 x2 x5 HX HY hh hx hy
  go_wp2_with (fail)
  refine q_region (by kernel_rfl) (by kernel_rfl) ?_
  iterate 69 (first
    | (refine q_op' (v := ?_) (a' := ?_) (by rfl) ?_ ?_ ?_
       rotate_left 2
       · intro w' hC
         go_simp
         try with_reducible rfl
       · simp only [Act.put, List.setIfInBounds_toArray, List.set_cons_zero, List.set_cons_succ]
         try rfl)
    | (refine q_skip' (a' := ?_) (by rfl) ?_ ?_
       rotate_left 1
       · simp only [Act.put, List.setIfInBounds_toArray, List.set_cons_zero, List.set_cons_succ]
         try rfl))
  refine wpQuiet_nil ?_
  intro w4 hC
  have HG4 := Lib.hid (Grows.trans HG3.out hC)
  clear hC
  go_wp2_with (fail)
  go_ret
  exact ⟨by simp, HG4.out⟩

set_option maxRecDepth 100000 in
set_option maxHeartbeats 2000000 in
theorem more_gt_out {w : World} (A : Option Addr) (n c : Nat) (xs : List UInt8) (hc : Came w A n c xs) (B : Option Addr) (m d : Nat) (ys : List UInt8) (hd : Came w B m d ys) (hlt : m < n) (hf : ¬ (1 ≤ m ∧ m ≤ 8192)) :
    Calls Try.prog 8 #[.slice A n c, .slice B m d] w fun e w' => e = .returned (.bool true) ∧ Below w.heap.size w w' := by
  have hl := hc.bytes.len
  have hl2 := hd.bytes.len
  have hreach := hc.reach
  have hcap := hc.cap
  have hreach2 := hd.reach
  have hcap2 := hd.cap
  have HC := Lib.hid hc.sl
  have HD := Lib.hid hd.sl
  clear hc hd
  have k0 : (0 : Int) ≤ (m : Int) := by omega
  have k1 : (m : Int) ≤ (c : Int) := by omega
  have k2 : (m : Int) ≤ (d : Int) := by omega
  have k3 : decide ((n : Int) < (m : Int)) = false := by simp; omega
  have k4 : decide ((m : Int) < (n : Int)) = true := by simp; omega
  have hx : (xs.take m).length = m := by rw [List.length_take]; omega
  have hy : (ys.take m).length = m := by rw [List.length_take]; omega
  have hzero : m = 0 ∨ 8192 < m := by omega
  have hput1 : putB (xs.take m) = [] := by unfold putB; rw [hx, if_neg hf]
  have hput2 : putB (ys.take m) = [] := by unfold putB; rw [hy, if_neg hf]
  rcases hzero with hzero | hzero
  · have hk0 : (((m : Nat) : Int) == 0) = true := by simp; omega
    have HZ0 := Lib.hid hzero
    clear hzero
    go_enter Try.func8, Try.ntmps8
    go_wp2_with (fail)
    refine (head2_any _).mono ?_
    rintro e w1 ⟨rfl, hb1⟩
    have HG1 := Lib.hid (show Grows w w1 from hb1)
    clear hb1
    go_wp2_with (fail)
    refine (put_any A m c (xs.take m) w1 ((HC.out.grow HG1.out).first (by omega)) (by unfold maxLen; omega)).mono ?_
    rintro e w2 ⟨A2, m2, c2, rfl, hs2, hb2⟩
    have hm := hs2.len
    rw [hput1] at hm
    change 0 = m2 at hm
    subst hm
    have HG2 := Lib.hid (Grows.trans HG1.out hb2)
    clear hs2 hb2 HG1
    go_wp2_with (fail)
    refine (put_any B m d (ys.take m) w2 ((HD.out.grow HG2.out).first (by omega)) (by unfold maxLen; omega)).mono ?_
    rintro e w3 ⟨A3, m3, c3, rfl, hs3, hb3⟩
    have hm := hs3.len
    rw [hput2] at hm
    change 0 = m3 at hm
    subst hm
    have HG3 := Lib.hid (Grows.trans HG2.out hb3)
    clear hs3 hb3 HG2
    go_wp2_with (fail)
    go_ret
    exact ⟨rfl, HG3.out⟩
  · have hk0 : (((m : Nat) : Int) == 0) = false := by simp; omega
    have hk8 : decide ((8192 : Int) < (m : Int)) = true := by simp; omega
    have HZ0 := Lib.hid hzero
    clear hzero
    go_enter Try.func8, Try.ntmps8
    go_wp2_with (fail)
    refine (head2_any _).mono ?_
    rintro e w1 ⟨rfl, hb1⟩
    have HG1 := Lib.hid (show Grows w w1 from hb1)
    clear hb1
    go_wp2_with (fail)
    refine (put_any A m c (xs.take m) w1 ((HC.out.grow HG1.out).first (by omega)) (by unfold maxLen; omega)).mono ?_
    rintro e w2 ⟨A2, m2, c2, rfl, hs2, hb2⟩
    have hm := hs2.len
    rw [hput1] at hm
    change 0 = m2 at hm
    subst hm
    have HG2 := Lib.hid (Grows.trans HG1.out hb2)
    clear hs2 hb2 HG1
    go_wp2_with (fail)
    refine (put_any B m d (ys.take m) w2 ((HD.out.grow HG2.out).first (by omega)) (by unfold maxLen; omega)).mono ?_
    rintro e w3 ⟨A3, m3, c3, rfl, hs3, hb3⟩
    have hm := hs3.len
    rw [hput2] at hm
    change 0 = m3 at hm
    subst hm
    have HG3 := Lib.hid (Grows.trans HG2.out hb3)
    clear hs3 hb3 HG2
    go_wp2_with (fail)
    go_ret
    exact ⟨rfl, HG3.out⟩

set_option maxRecDepth 100000 in
set_option maxHeartbeats 16000000 in
theorem more_eq_in {w : World} (A : Option Addr) (n c : Nat) (xs : List UInt8) (hc : Came w A n c xs) (B : Option Addr) (d : Nat) (ys : List UInt8) (hd : Came w B n d ys) (hf : 1 ≤ n ∧ n ≤ 8192) :
    Calls Try.prog 8 #[.slice A n c, .slice B n d] w fun e w' => e = .returned (.bool true) ∧ Below w.heap.size w w' := by
  have hl := hc.bytes.len
  have hl2 := hd.bytes.len
  have hreach := hc.reach
  have hcap := hc.cap
  have hreach2 := hd.reach
  have hcap2 := hd.cap
  have HC := Lib.hid hc.sl
  have HD := Lib.hid hd.sl
  clear hc hd
  have k0 : (0 : Int) ≤ (n : Int) := by omega
  have k1 : (n : Int) ≤ (c : Int) := by omega
  have k2 : (n : Int) ≤ (d : Int) := by omega
  have hx : (xs.take n).length = n := by rw [List.length_take]; omega
  have hy : (ys.take n).length = n := by rw [List.length_take]; omega
  have hk0 : (((n : Nat) : Int) == 0) = false := by simp; omega
  have hk8 : decide ((8192 : Int) < (n : Int)) = false := by simp; omega
  go_enter Try.func8, Try.ntmps8
  go_wp2_with (fail)
  refine (head2_any _).mono ?_
  rintro e w1 ⟨rfl, hb1⟩
  have HG1 := Lib.hid (show Grows w w1 from hb1)
  clear hb1
  go_wp2_with (fail)
  refine (put_any A n c (xs.take n) w1 ((HC.out.grow HG1.out).first (by omega)) (by unfold maxLen; omega)).mono ?_
  rintro e w2 ⟨A2, m2, c2, rfl, hs2, hb2⟩
  have hput : putB (xs.take n) = frameB (xs.take n) := by unfold putB; rw [hx, if_pos hf]
  have hm := hs2.len
  rw [hput] at hs2
  rw [hput, frameB_length, hx] at hm
  subst hm
  have HS2 := Lib.hid hs2
  have HG2 := Lib.hid (Grows.trans HG1.out hb2)
  clear hs2 hb2 hput HG1
  go_wp2_with (fail)
  refine (put_any B n d (ys.take n) w2 ((HD.out.grow HG2.out).first (by omega)) (by unfold maxLen; omega)).mono ?_
  rintro e w3 ⟨A3, m3, c3, rfl, hs3, hb3⟩
  have hput : putB (ys.take n) = frameB (ys.take n) := by unfold putB; rw [hy, if_pos hf]
  have hm := hs3.len
  rw [hput] at hs3
  rw [hput, frameB_length, hy] at hm
  subst hm
  have hs2 := HS2.out.grow hb3
  have HG3 := Lib.hid (Grows.trans HG2.out hb3)
  clear hb3 hput HG2 HS2
  obtain ⟨b0, b1, b2, b3, hh⟩ := four (headB_length n)
  have e2 : frameB (xs.take n) = b0 :: b1 :: b2 :: b3 :: (xs.take n ++ tailB (headB n ++ xs.take n)) := by unfold frameB; rw [hx, hh]; simp
  have e3 : frameB (ys.take n) = b0 :: b1 :: b2 :: b3 :: (ys.take n ++ tailB (headB n ++ ys.take n)) := by unfold frameB; rw [hy, hh]; simp
  have HX := Lib.hid (HC.out.grow HG3.out)
  have HY := Lib.hid (HD.out.grow HG3.out)
  have t2 := fun w' (hw : Grows w3 w') => run_string ((hs2.grow hw).first (k := 4) (by omega))
  have t3 := fun w' (hw : Grows w3 w') => run_string ((hs3.grow hw).first (k := 4) (by omega))
  rw [show (frameB (xs.take n)).take 4 = [b0, b1, b2, b3] by rw [e2]; rfl] at t2
  rw [show (frameB (ys.take n)).take 4 = [b0, b1, b2, b3] by rw [e3]; rfl] at t3
  have u2 := fun w' (hw : Grows w3 w') => run_string (hs2.grow hw)
  have u3 := fun w' (hw : Grows w3 w') => run_string (hs3.grow hw)
  have u4 := fun w' (hw : Grows w3 w') => run_string ((HX.out.grow hw).first (k := n) (by omega))
  have u5 := fun w' (hw : Grows w3 w') => run_string ((HY.out.grow hw).first (k := n) (by omega))
  have hsame : (frameB (xs.take n) == frameB (ys.take n)) = (xs.take n == ys.take n) := by
    by_cases h : xs.take n = ys.take n
    · rw [h]; simp
    · rw [beq_eq_false_iff_ne.2 h, beq_eq_false_iff_ne]
      intro h'
      exact h (frameB_inj (by rw [hx, hy]) h')
  obtain ⟨ad, rfl⟩ : ∃ ad, A2 = some ad := by
    obtain ⟨ad, h, _⟩ := hs2.bytes.spot (k := 0) (by omega)
    exact ⟨ad, h⟩
  have hc4 : (4 : Int) ≤ (c2 : Int) := by have := hs2.cap; omega
  have hd4 : (4 : Int) ≤ (c3 : Int) := by have := hs3.cap; omega
  rw [e2] at hs2
  have q0 := fun w' (hw : Grows w3 w') => (first_cells (hs2.grow hw)).2.1
  have q1 := fun w' (hw : Grows w3 w') => (first_cells (hs2.grow hw)).2.2.1
  have q2 := fun w' (hw : Grows w3 w') => (first_cells (hs2.grow hw)).2.2.2.1
  have q3 := fun w' (hw : Grows w3 w') => (first_cells (hs2.grow hw)).2.2.2.2
  obtain ⟨x0, x1, x2⟩ := head_bits n hf.2 hh
  have k8 : IntKind.i64.wrap ((n : Int) + 8) = (n : Int) + 8 := IntWalk.i64_in _ (by omega)
  have i0 : (0 : Int) < (n : Int) + 8 := by omega
  have i1 : (1 : Int) < (n : Int) + 8 := by omega
  have i2 : (2 : Int) < (n : Int) + 8 := by omega
  have i3 : (3 : Int) < (n : Int) + 8 := by omega
  have x3 := b0.toNat_lt
  have x4 := b1.toNat_lt
  have x5 : 256 * (b0.toNat : Int) + (b1.toNat : Int) = (n : Int) := by omega
  generalize frameB (xs.take n) = f1 at *
  generalize frameB (ys.take n) = f2 at *
  generalize xs.take n = y1 at *
  generalize ys.take n = y2 at *
  generalize b0.toNat = m0 at *
  generalize b1.toNat = m1 at *
  have w0 : IntKind.i64.wrap (m0 : Int) = (m0 : Int) := IntWalk.i64_in _ (by omega)
  have w1 : IntKind.i64.wrap (m1 : Int) = (m1 : Int) := IntWalk.i64_in _ (by omega)
  have w2 : IntKind.i64.wrap (256 * (m0 : Int)) = 256 * (m0 : Int) := IntWalk.i64_in _ (by omega)
  have w4 : IntKind.i64.wrap (256 * (m0 : Int) + (m1 : Int)) = (n : Int) := (IntWalk.i64_in _ (by omega)).trans x5
  clear hs2 hs3 e2 e3 x2 x5 HX HY hh hx hy
  go_wp2_with (fail)
  refine q_region (by kernel_rfl) (by kernel_rfl) ?_
  iterate 69 (first
    | (refine q_op' (v := ?_) (a' := ?_) (by rfl) ?_ ?_ ?_
       rotate_left 2
       · intro w' hC
         go_simp
         try with_reducible rfl
       · simp only [Act.put, List.setIfInBounds_toArray, List.set_cons_zero, List.set_cons_succ]
         try rfl)
    | (refine q_skip' (a' := ?_) (by rfl) ?_ ?_
       rotate_left 1
       · simp only [Act.put, List.setIfInBounds_toArray, List.set_cons_zero, List.set_cons_succ]
         try rfl))
  refine wpQuiet_nil ?_
  intro w4 hC
  have HG4 := Lib.hid (Grows.trans HG3.out hC)
  clear hC
  go_wp2_with (fail)
  go_ret
  exact ⟨by simp, HG4.out⟩

set_option maxRecDepth 100000 in
set_option maxHeartbeats 2000000 in
theorem more_eq_out {w : World} (A : Option Addr) (n c : Nat) (xs : List UInt8) (hc : Came w A n c xs) (B : Option Addr) (d : Nat) (ys : List UInt8) (hd : Came w B n d ys) (hf : ¬ (1 ≤ n ∧ n ≤ 8192)) :
    Calls Try.prog 8 #[.slice A n c, .slice B n d] w fun e w' => e = .returned (.bool true) ∧ Below w.heap.size w w' := by
  have hl := hc.bytes.len
  have hl2 := hd.bytes.len
  have hreach := hc.reach
  have hcap := hc.cap
  have hreach2 := hd.reach
  have hcap2 := hd.cap
  have HC := Lib.hid hc.sl
  have HD := Lib.hid hd.sl
  clear hc hd
  have k0 : (0 : Int) ≤ (n : Int) := by omega
  have k1 : (n : Int) ≤ (c : Int) := by omega
  have k2 : (n : Int) ≤ (d : Int) := by omega
  have hx : (xs.take n).length = n := by rw [List.length_take]; omega
  have hy : (ys.take n).length = n := by rw [List.length_take]; omega
  have hzero : n = 0 ∨ 8192 < n := by omega
  have hput1 : putB (xs.take n) = [] := by unfold putB; rw [hx, if_neg hf]
  have hput2 : putB (ys.take n) = [] := by unfold putB; rw [hy, if_neg hf]
  rcases hzero with hzero | hzero
  · have hk0 : (((n : Nat) : Int) == 0) = true := by simp; omega
    have HZ0 := Lib.hid hzero
    clear hzero
    go_enter Try.func8, Try.ntmps8
    go_wp2_with (fail)
    refine (head2_any _).mono ?_
    rintro e w1 ⟨rfl, hb1⟩
    have HG1 := Lib.hid (show Grows w w1 from hb1)
    clear hb1
    go_wp2_with (fail)
    refine (put_any A n c (xs.take n) w1 ((HC.out.grow HG1.out).first (by omega)) (by unfold maxLen; omega)).mono ?_
    rintro e w2 ⟨A2, m2, c2, rfl, hs2, hb2⟩
    have hm := hs2.len
    rw [hput1] at hm
    change 0 = m2 at hm
    subst hm
    have HG2 := Lib.hid (Grows.trans HG1.out hb2)
    clear hs2 hb2 HG1
    go_wp2_with (fail)
    refine (put_any B n d (ys.take n) w2 ((HD.out.grow HG2.out).first (by omega)) (by unfold maxLen; omega)).mono ?_
    rintro e w3 ⟨A3, m3, c3, rfl, hs3, hb3⟩
    have hm := hs3.len
    rw [hput2] at hm
    change 0 = m3 at hm
    subst hm
    have HG3 := Lib.hid (Grows.trans HG2.out hb3)
    clear hs3 hb3 HG2
    go_wp2_with (fail)
    go_ret
    exact ⟨rfl, HG3.out⟩
  · have hk0 : (((n : Nat) : Int) == 0) = false := by simp; omega
    have hk8 : decide ((8192 : Int) < (n : Int)) = true := by simp; omega
    have HZ0 := Lib.hid hzero
    clear hzero
    go_enter Try.func8, Try.ntmps8
    go_wp2_with (fail)
    refine (head2_any _).mono ?_
    rintro e w1 ⟨rfl, hb1⟩
    have HG1 := Lib.hid (show Grows w w1 from hb1)
    clear hb1
    go_wp2_with (fail)
    refine (put_any A n c (xs.take n) w1 ((HC.out.grow HG1.out).first (by omega)) (by unfold maxLen; omega)).mono ?_
    rintro e w2 ⟨A2, m2, c2, rfl, hs2, hb2⟩
    have hm := hs2.len
    rw [hput1] at hm
    change 0 = m2 at hm
    subst hm
    have HG2 := Lib.hid (Grows.trans HG1.out hb2)
    clear hs2 hb2 HG1
    go_wp2_with (fail)
    refine (put_any B n d (ys.take n) w2 ((HD.out.grow HG2.out).first (by omega)) (by unfold maxLen; omega)).mono ?_
    rintro e w3 ⟨A3, m3, c3, rfl, hs3, hb3⟩
    have hm := hs3.len
    rw [hput2] at hm
    change 0 = m3 at hm
    subst hm
    have HG3 := Lib.hid (Grows.trans HG2.out hb3)
    clear hs3 hb3 HG2
    go_wp2_with (fail)
    go_ret
    exact ⟨rfl, HG3.out⟩

theorem more_law {w : World} (A : Option Addr) (n c : Nat) (xs : List UInt8) (hc : Came w A n c xs) (B : Option Addr) (m d : Nat) (ys : List UInt8) (hd : Came w B m d ys) :
    Calls Try.prog 8 #[.slice A n c, .slice B m d] w fun e w' => e = .returned (.bool true) ∧ Below w.heap.size w w' := by
  rcases Nat.lt_trichotomy n m with h | h | h
  · by_cases hf : 1 ≤ n ∧ n ≤ 8192
    · exact more_lt_in A n c xs hc B m d ys hd h hf
    · exact more_lt_out A n c xs hc B m d ys hd h hf
  · subst h
    by_cases hf : 1 ≤ n ∧ n ≤ 8192
    · exact more_eq_in A n c xs hc B d ys hd hf
    · exact more_eq_out A n c xs hc B d ys hd hf
  · by_cases hf : 1 ≤ m ∧ m ≤ 8192
    · exact more_gt_in A n c xs hc B m d ys hd h hf
    · exact more_gt_out A n c xs hc B m d ys hd h hf

set_option maxRecDepth 100000 in
theorem frameMore_lifted (os : Os) (started : os.Started) (H : Type) (enc : TypeId × Value → H) :
    ReturnsInHanded {} Try.checked os 8 .any (Rows.frameMoreSpec.pre6 enc Try.prog Try.f8 Rows.frameMoreRow.domain false) (Rows.frameMoreSpec.post enc Try.prog Try.f8 false true false false) := by
  refine lift_law (C := Try.checked) H enc own started (by kernel_rfl) Try.func8
    (ChangeSpec.witness6 (enc := enc) (C := Try.checked) false ⟨#[], #[.slice none 0 0, .slice none 0 0], []⟩ 16 (by kernel_rfl) (by kernel_rfl) (by kernel_rfl) (by kernel_rfl))
    laidOut (of_readable (by kernel_rfl)) rfl Try.underlying4 rfl (fun ds hd => ?_) (fun W base args ds p hval hA hsz => ?_)
  · match ds, hd with
    | [d1, d2], _ => rfl
  · rw [Try.params8] at hA hval hsz
    obtain ⟨v0, vs0, d0, ds0, p0, q0, hargs, rfl, rfl, h0, r0⟩ := trodAll_cons hA
    obtain ⟨v1, vs1, d1, ds1, p1, q1, rfl, rfl, rfl, h1, r1⟩ := trodAll_cons r0
    obtain ⟨rfl, rfl, rfl⟩ := trodAll_nil r1
    obtain rfl : args = #[v0, v1] := by cases args; simp_all
    obtain ⟨A0, n0, c0, xs0, rfl, hx0⟩ := open_bytes Try.underlying22 Try.underlying5 (by kernel_rfl) (by kernel_rfl) (hval 0 22 v0 rfl rfl) h0 hsz (j := 0) rfl rfl
    obtain ⟨A1, n1, c1, xs1, rfl, hx1⟩ := open_bytes Try.underlying22 Try.underlying5 (by kernel_rfl) (by kernel_rfl) (hval 1 22 v1 rfl rfl) h1 hsz (j := 1) rfl rfl
    exact more_law A0 n0 c0 xs0 hx0 A1 n1 c1 xs1 hx1

theorem frameMore_over : Rows.frameMoreRow.holds Try.pinned (OpenSpec.ofChange Rows.frameMoreSpec) :=
  OpenClaim.holds_of_wide 8 Try.f8 rfl rfl rfl rfl rfl rfl rfl ⟨rfl, rfl, rfl, rfl, rfl⟩ rfl rfl rfl rfl rfl (by kernel_rfl) Try.func8 (by kernel_rfl)
    (of_decide_eq_true (by kernel_rfl)) (by unfold Func.isWrapper; first | (rw [if_pos (by decide +kernel)]; kernel_rfl) | (rw [if_neg (by decide +kernel)]; exact ⟨rfl, rfl⟩))
    (fun os started H enc _ => frameMore_lifted os started H enc)
theorem frameMore_holds : Rows.FrameMoreSaid := frameMore_over
end Go.Proofs.Ytfefghnincjlgaa
