/-
  Plain arithmetic of sums: a step, the table and a sum go with xor, and nothing but 0 makes 0.
-/
import Derived.Test.YtgemjdacnomnhaaPlain
namespace Go.Proofs.Ytgemjdacnomnhaa

/-! What xor does to it. -/
theorem xor_mod2 (a b : Nat) : (a ^^^ b) % 2 = (a % 2 + b % 2) % 2 := by
  have h := Nat.xor_mod_two_pow (a := a) (b := b) (n := 1)
  rw [Nat.pow_one] at h
  rw [h]
  have ha : a % 2 = 0 ∨ a % 2 = 1 := by omega
  have hb : b % 2 = 0 ∨ b % 2 = 1 := by omega
  rcases ha with ha | ha <;> rcases hb with hb | hb <;> rw [ha, hb] <;> rfl
theorem xor_half (a b : Nat) : (a ^^^ b) / 2 = a / 2 ^^^ b / 2 := by
  apply Nat.eq_of_testBit_eq
  intro i
  simp [Nat.testBit_div_two]
theorem xor4 (a b c d : Nat) : (a ^^^ b) ^^^ (c ^^^ d) = (a ^^^ c) ^^^ (b ^^^ d) := by
  apply Nat.eq_of_testBit_eq
  intro i
  simp only [Nat.testBit_xor]
  cases a.testBit i <;> cases b.testBit i <;> cases c.testBit i <;> cases d.testBit i <;> rfl
theorem xor_none {a b : Nat} (h : a ^^^ b = 0) : a = b := by
  apply Nat.eq_of_testBit_eq
  intro i
  have h' : (a ^^^ b).testBit i = false := by rw [h]; exact Nat.zero_testBit i
  rw [Nat.testBit_xor] at h'
  revert h'
  cases a.testBit i <;> cases b.testBit i <;> simp
theorem stepN_xor (a b : Nat) : stepN (a ^^^ b) = stepN a ^^^ stepN b := by
  have hm := xor_mod2 a b
  have ha : a % 2 = 0 ∨ a % 2 = 1 := by omega
  have hb : b % 2 = 0 ∨ b % 2 = 1 := by omega
  unfold stepN
  rw [xor_half]
  rcases ha with ha | ha <;> rcases hb with hb | hb <;> rw [hm, ha, hb] <;> simp
  · rw [Nat.xor_assoc]
  · rw [Nat.xor_assoc, Nat.xor_assoc, Nat.xor_comm (b / 2)]
  · rw [xor4, Nat.xor_self, Nat.xor_zero]
theorem iterN_xor (k a b : Nat) : iterN k (a ^^^ b) = iterN k a ^^^ iterN k b := by
  induction k with
  | zero => rfl
  | succ k ih => simp only [iterN]; rw [ih, stepN_xor]
theorem tabN_xor (a b : Nat) : tabN (a ^^^ b) = tabN a ^^^ tabN b := iterN_xor 8 a b
theorem stepN_zero {n : Nat} (h : n < 4294967296) (hz : stepN n = 0) : n = 0 := by
  unfold stepN at hz
  split at hz
  · have := xor_none hz
    omega
  · omega
theorem iterN_none (k : Nat) : iterN k 0 = 0 := by
  induction k with
  | zero => rfl
  | succ k ih => simp only [iterN]; rw [ih]; rfl
theorem iterN_zero {k n : Nat} (h : n < 4294967296) (hz : iterN k n = 0) : n = 0 := by
  induction k with
  | zero => exact hz
  | succ k ih => exact ih (stepN_zero (iterN_lt k n h) hz)
theorem tabN_inj {a b : Nat} (ha : a < 256) (hb : b < 256) (h : tabN a = tabN b) : a = b := by
  have hx : a ^^^ b < 2 ^ 8 := Nat.xor_lt_two_pow (by omega) (by omega)
  have hz : tabN (a ^^^ b) = 0 := by rw [tabN_xor, h, Nat.xor_self]
  exact xor_none (iterN_zero (k := 8) (by omega) hz)
theorem tab_same (x y : Nat) (hx : x < 256) (hy : y < 256) : (((tabN x : Nat) : Int) == ((tabN y : Nat) : Int)) = ((x : Int) == (y : Int)) := by
  by_cases h : x = y
  · subst h; simp
  · have h' : tabN x ≠ tabN y := fun e => h (tabN_inj hx hy e)
    rw [beq_eq_false_iff_ne.2 (by omega), beq_eq_false_iff_ne.2 (by omega)]
end Go.Proofs.Ytgemjdacnomnhaa
