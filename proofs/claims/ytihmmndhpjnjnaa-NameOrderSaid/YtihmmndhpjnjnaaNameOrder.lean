/-
  Statement NameOrder: of numbers that rise names rise; unlike kinds have unlike names, whatever their numbers. Every two numbers, no condition.
-/
import Derived.Test.YtihmmndhpjnjnaaNmHead
import Derived.Test.YtihmmndhpjnjnaaNmIn
import Derived.ProofKit
import Derived.ChangeOld
namespace Go.Proofs.Ytihmmndhpjnjnaa
open Go.ChangeShapes Go.WideShapes Go.ChangeAt Go.RowKit
set_option linter.unusedSimpArgs false
set_option linter.unusedVariables false

theorem digs_less (a b : Nat) : ∀ i, Op.bytesLess (digs a i) (digs b i) = decide (a % 10 ^ i < b % 10 ^ i)
  | 0 => by
    rw [digs, digs]
    simp [Op.bytesLess, Nat.mod_one]
  | i + 1 => by
    have ha : a / 10 ^ i % 10 < 10 := Nat.mod_lt _ (by omega)
    have hb : b / 10 ^ i % 10 < 10 := Nat.mod_lt _ (by omega)
    have la : a % 10 ^ i < 10 ^ i := Nat.mod_lt _ (Nat.pow_pos (by omega))
    have lb : b % 10 ^ i < 10 ^ i := Nat.mod_lt _ (Nat.pow_pos (by omega))
    rw [digs, digs, Op.bytesLess, digs_less a b i, ← mod_next a i, ← mod_next b i]
    generalize a / 10 ^ i % 10 = x at *
    generalize b / 10 ^ i % 10 = y at *
    generalize a % 10 ^ i = p at *
    generalize b % 10 ^ i = q at *
    generalize 10 ^ i = T at *
    have ex := dig_nat x ha
    have ey := dig_nat y hb
    have hlt : decide (UInt8.ofNat (48 + x) < UInt8.ofNat (48 + y)) = decide (x < y) := by
      apply decide_eq_decide.2
      rw [UInt8.lt_iff_toNat_lt, ex, ey]
      omega
    have heq : (UInt8.ofNat (48 + x) == UInt8.ofNat (48 + y)) = decide (x = y) := by
      rw [Bool.eq_iff_iff, beq_iff_eq, decide_eq_true_iff]
      constructor
      · intro h
        have := congrArg UInt8.toNat h
        omega
      · intro h
        rw [h]
    rw [hlt, heq]
    rcases Nat.lt_trichotomy x y with h | h | h
    · have h2 : T * x + T ≤ T * y := by
        have := Nat.mul_le_mul_left T h
        rw [Nat.mul_succ] at this
        exact this
      rw [decide_eq_true h, Bool.true_or, decide_eq_true (by omega)]
    · subst h
      simp
    · have h2 : T * y + T ≤ T * x := by
        have := Nat.mul_le_mul_left T h
        rw [Nat.mul_succ] at this
        exact this
      rw [decide_eq_false (by omega : ¬ x < y), decide_eq_false (by omega : ¬ x = y), Bool.false_and, Bool.or_false, decide_eq_false (by omega)]
theorem name_less (c : UInt8) (a b : Nat) (ha : a < 100000000) (hb : b < 100000000) : Op.bytesLess (c :: digs a 8) (c :: digs b 8) = decide (a < b) := by
  rw [Op.bytesLess, digs_less, Nat.mod_eq_of_lt (by omega), Nat.mod_eq_of_lt (by omega)]
  simp
theorem bytes_list (l : List UInt8) : (⟨l.toArray⟩ : ByteArray).toList = l := by
  rw [ByteArray.toList_eq]
theorem of_one (a : Nat) (ha : a < 100000000) : ofP 1 (a : Int) = 115 :: digs a 8 := by
  unfold ofP
  rw [if_neg (by omega), if_pos rfl, Int.toNat_natCast]
theorem of_two (a : Nat) (ha : a < 100000000) : ofP 2 (a : Int) = 104 :: digs a 8 := by
  unfold ofP
  rw [if_neg (by omega), if_neg (by decide), if_pos rfl, Int.toNat_natCast]

set_option maxRecDepth 100000 in
set_option maxHeartbeats 8000000 in
theorem nameOrder_law (n : Int) (hn : 0 ≤ n ∧ n < 4294967296) (m : Int) (hm : 0 ≤ m ∧ m < 4294967296) (w : World) :
    Calls Try.prog 6 #[.int .u32 n, .int .u32 m] w fun e w' => e = .returned (.bool true) ∧ Below w.heap.size w w' := by
  obtain ⟨a, hae⟩ : ∃ a : Nat, n % 100000000 = (a : Int) := ⟨(n % 100000000).toNat, by omega⟩
  obtain ⟨b, hbe⟩ : ∃ b : Nat, m % 100000000 = (b : Int) := ⟨(m % 100000000).toNat, by omega⟩
  have ha : a < 100000000 := by omega
  have hb : b < 100000000 := by omega
  have e1 : n.tmod 100000000 = (a : Int) := by rw [Int.tmod_eq_emod_of_nonneg (by omega), hae]
  have e2 : m.tmod 100000000 = (b : Int) := by rw [Int.tmod_eq_emod_of_nonneg (by omega), hbe]
  have e3 : wrap64 (a : Int) = (a : Int) := IntWalk.wrap64_in _ ⟨by omega, by omega⟩
  have e4 : wrap64 (b : Int) = (b : Int) := IntWalk.wrap64_in _ ⟨by omega, by omega⟩
  have e5 : IntKind.u32.wrap (a : Int) = (a : Int) := IntWalk.u32_in _ ⟨by omega, by omega⟩
  have e6 : IntKind.u32.wrap (b : Int) = (b : Int) := IntWalk.u32_in _ ⟨by omega, by omega⟩
  obtain ⟨SA, hSA⟩ : ∃ S, (115 :: digs a 8 : List UInt8) = S := ⟨_, rfl⟩
  obtain ⟨SB, hSB⟩ : ∃ S, (115 :: digs b 8 : List UInt8) = S := ⟨_, rfl⟩
  obtain ⟨TA, hTA⟩ : ∃ S, (104 :: digs a 8 : List UInt8) = S := ⟨_, rfl⟩
  obtain ⟨TB, hTB⟩ : ∃ S, (104 :: digs b 8 : List UInt8) = S := ⟨_, rfl⟩
  have OSA := Lib.hid (fun w => of_any 1 (a : Int) w)
  have OSB := Lib.hid (fun w => of_any 1 (b : Int) w)
  have OTA := Lib.hid (fun w => of_any 2 (a : Int) w)
  have OTB := Lib.hid (fun w => of_any 2 (b : Int) w)
  simp only [of_one a ha, of_one b hb, of_two a ha, of_two b hb, hSA, hSB, hTA, hTB] at OSA OSB OTA OTB
  have l1 : Op.bytesLess SA SB = decide (a < b) := by rw [← hSA, ← hSB]; exact name_less 115 a b ha hb
  have l2 : Op.bytesLess TA TB = decide (a < b) := by rw [← hTA, ← hTB]; exact name_less 104 a b ha hb
  have n1 : ¬ SA = TB := by rw [← hSA, ← hTB]; intro e; injection e with e; cases e
  have n2 : ¬ SA = [109] := by rw [← hSA]; intro e; injection e with e; cases e
  have n3 : TB.length = 9 := by rw [← hTB, List.length_cons, digs_length]
  have n4 : (SA == TB) = false := by simpa using n1
  have n5 : (SA == [109]) = false := by simpa using n2
  clear hae hbe hn hm hSA hSB hTA hTB ha hb
  go_enter Try.func6, Try.ntmps6
  go_wp2_with (fail)
  refine (head_any w).mono ?_
  rintro e w0 ⟨rfl, hb0⟩
  have HG0 := Lib.hid hb0
  clear hb0
  go_wp2_with (fail)
  refine (OSA.out w0).mono ?_
  rintro e w1 ⟨rfl, hb1⟩
  have HG1 := Lib.hid (Grows.trans HG0.out hb1)
  clear hb1
  go_wp2_with (fail)
  refine (OSB.out w1).mono ?_
  rintro e w2 ⟨rfl, hb2⟩
  have HG2 := Lib.hid (Grows.trans HG1.out hb2)
  clear hb2
  go_wp2_with (fail)
  refine (OTA.out w2).mono ?_
  rintro e w3 ⟨rfl, hb3⟩
  have HG3 := Lib.hid (Grows.trans HG2.out hb3)
  clear hb3
  go_wp2_with (fail)
  refine (OTB.out w3).mono ?_
  rintro e w4 ⟨rfl, hb4⟩
  have HG4 := Lib.hid (Grows.trans HG3.out hb4)
  clear hb4
  go_wp2_with (fail)
  refine (OSA.out w4).mono ?_
  rintro e w5 ⟨rfl, hb5⟩
  have HG5 := Lib.hid (Grows.trans HG4.out hb5)
  clear hb5
  go_wp2_with (fail)
  refine (OTB.out w5).mono ?_
  rintro e w6 ⟨rfl, hb6⟩
  have HG6 := Lib.hid (Grows.trans HG5.out hb6)
  clear hb6
  go_wp2_with (fail)
  refine (OSA.out w6).mono ?_
  rintro e w7 ⟨rfl, hb7⟩
  have HG7 := Lib.hid (Grows.trans HG6.out hb7)
  clear hb7
  go_wp2_with (fail)
  refine (of_any 3 0 w7).mono ?_
  rw [show ofP 3 0 = [109] from rfl]
  rintro e w8 ⟨rfl, hb8⟩
  have HG8 := Lib.hid (Grows.trans HG7.out hb8)
  clear hb8
  go_wp2_with (fail)
  refine (OTB.out w8).mono ?_
  rintro e w9 ⟨rfl, hb9⟩
  have HG9 := Lib.hid (Grows.trans HG8.out hb9)
  clear hb9
  go_wp2_with (fail)
  go_ret
  exact ⟨rfl, HG9.out⟩

set_option maxRecDepth 100000 in
theorem nameOrder_lifted (os : Os) (started : os.Started) (H : Type) (enc : TypeId × Value → H) :
    ReturnsInHanded {} Try.checked os 6 .any (Rows.nameOrderSpec.pre6 enc Try.prog Try.f6 Rows.nameOrderRow.domain false) (Rows.nameOrderSpec.post enc Try.prog Try.f6 false true false false) := by
  refine lift_law (C := Try.checked) H enc own started (by kernel_rfl) Try.func6
    (ChangeSpec.witness6 (enc := enc) (C := Try.checked) false ⟨#[], #[.int .u32 0, .int .u32 0], []⟩ 16 (by kernel_rfl) (by kernel_rfl) (by kernel_rfl) (by kernel_rfl))
    laidOut (of_readable (by kernel_rfl)) rfl Try.underlying4 rfl (fun ds hd => ?_) (fun W base args ds p hval hA hsz => ?_)
  · match ds, hd with
    | [d1, d2], _ => rfl
  · rw [Try.params6] at hA hval hsz
    obtain ⟨v0, vs0, d0, ds0, p0, q0, hargs, rfl, rfl, h0, r0⟩ := trodAll_cons hA
    obtain ⟨v1, vs1, d1, ds1, p1, q1, rfl, rfl, rfl, h1, r1⟩ := trodAll_cons r0
    obtain ⟨rfl, rfl, rfl⟩ := trodAll_nil r1
    obtain rfl : args = #[v0, v1] := by cases args; simp_all
    obtain ⟨a0, rfl, _, _, w0⟩ := open_int Try.underlying43 (hval 0 43 v0 rfl rfl) h0
    have b0 := bounds_u32 w0
    obtain ⟨a1, rfl, _, _, w1⟩ := open_int Try.underlying43 (hval 1 43 v1 rfl rfl) h1
    have b1 := bounds_u32 w1
    exact nameOrder_law a0 (by omega) a1 (by omega) W

theorem nameOrder_over : Rows.nameOrderRow.holds Try.pinned (OpenSpec.ofChange Rows.nameOrderSpec) :=
  OpenClaim.holds_of_wide 6 Try.f6 rfl rfl rfl rfl rfl rfl rfl ⟨rfl, rfl, rfl, rfl, rfl⟩ rfl rfl rfl rfl rfl (by kernel_rfl) Try.func6 (by kernel_rfl)
    (of_decide_eq_true (by kernel_rfl)) (by unfold Func.isWrapper; first | (rw [if_pos (by decide +kernel)]; kernel_rfl) | (rw [if_neg (by decide +kernel)]; exact ⟨rfl, rfl⟩))
    (fun os started H enc _ => nameOrder_lifted os started H enc)
theorem nameOrder_holds : Rows.NameOrderSaid := nameOrder_over
end Go.Proofs.Ytihmmndhpjnjnaa
