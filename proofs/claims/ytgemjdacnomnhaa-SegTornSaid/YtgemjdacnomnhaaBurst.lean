/-
  Plain arithmetic of bursts: turning one bit of some bytes turns the sum by what that bit comes to; bits within 32 that stand together come to 0 together only if there is none.
-/
import Derived.Test.YtgemjdacnomnhaaLinear
namespace Go.Proofs.Ytgemjdacnomnhaa

theorem stepN_even (a : Nat) : stepN (2 * a) = a := by
  unfold stepN
  rw [if_neg (by omega)]
  omega
theorem iterN_pow (k a : Nat) : iterN k (2 ^ k * a) = a := by
  induction k generalizing a with
  | zero => simp [iterN]
  | succ k ih =>
    show stepN (iterN k (2 ^ (k + 1) * a)) = a
    rw [Nat.pow_succ, Nat.mul_assoc, ih, stepN_even]
theorem iterN_bit (N i : Nat) (h : i ≤ N) : iterN N (2 ^ i) = iterN (N - i) 1 := by
  have e : N = (N - i) + i := by omega
  have h1 := iterN_pow i 1
  rw [Nat.mul_one] at h1
  conv => lhs; rw [e, iterN_add, h1]
theorem split256 (x : Nat) : x = (256 * (x / 256)) ^^^ (x % 256) := by
  apply Nat.eq_of_testBit_eq
  intro i
  rw [Nat.testBit_xor, show 256 = 2 ^ 8 by rfl, Nat.testBit_two_pow_mul, Nat.testBit_mod_two_pow]
  by_cases h : i < 8
  · have h8 : ¬ 8 ≤ i := by omega
    simp [h, h8]
  · rw [Nat.testBit_div_two_pow]
    simp [h, show 8 ≤ i by omega, show i - 8 + 8 = i by omega]
theorem xor_high (m : Nat) (c : UInt8) : (m ^^^ c.toNat) / 256 = m / 256 := by
  apply Nat.eq_of_testBit_eq
  intro i
  rw [show 256 = 2 ^ 8 by rfl, Nat.testBit_div_two_pow, Nat.testBit_div_two_pow, Nat.testBit_xor]
  have hc : c.toNat < 2 ^ (i + 8) := Nat.lt_of_lt_of_le c.toNat_lt (Nat.pow_le_pow_right (by omega) (by omega))
  rw [Nat.testBit_lt_two_pow hc]
  simp
theorem next_iter (m : Nat) (c : UInt8) : nextN tabN m c = iterN 8 (m ^^^ c.toNat) := by
  conv => rhs; rw [split256 (m ^^^ c.toNat), iterN_xor, show 256 = 2 ^ 8 by rfl, iterN_pow 8, show 2 ^ 8 = 256 by rfl, xor_high]
  rfl
theorem run_turn (d : Nat) (bs : List UInt8) (s : Nat) : runN tabN (s ^^^ d) bs = runN tabN s bs ^^^ iterN (8 * bs.length) d := by
  induction bs generalizing s d with
  | nil => rfl
  | cons c bs ih =>
    show runN tabN (nextN tabN (s ^^^ d) c) bs = runN tabN (nextN tabN s c) bs ^^^ _
    have h : nextN tabN (s ^^^ d) c = nextN tabN s c ^^^ iterN 8 d := by
      rw [next_iter, next_iter, ← iterN_xor]
      congr 1
      rw [Nat.xor_assoc, Nat.xor_assoc, Nat.xor_comm d]
    rw [h, ih, ← iterN_add, List.length_cons, show 8 * bs.length + 8 = 8 * (bs.length + 1) by omega]

/-- Bit p of some bytes turned (the lowest bit of each first). -/
def flipB (xs : List UInt8) (p : Nat) : List UInt8 := xs.set (p / 8) (UInt8.ofNat ((xs.getD (p / 8) 0).toNat ^^^ 2 ^ (p % 8)))
theorem flip_byte (c : UInt8) (r : Nat) (h : r < 8) : (UInt8.ofNat (c.toNat ^^^ 2 ^ r)).toNat = c.toNat ^^^ 2 ^ r := by
  have h1 : c.toNat ^^^ 2 ^ r < 2 ^ 8 := Nat.xor_lt_two_pow c.toNat_lt (Nat.pow_lt_pow_right (by omega) h)
  rw [UInt8.toNat_ofNat']
  exact Nat.mod_eq_of_lt (by omega)
theorem flipB_length (xs : List UInt8) (p : Nat) : (flipB xs p).length = xs.length := by simp [flipB]
theorem run_flip (xs : List UInt8) (p : Nat) (h : p < 8 * xs.length) (s : Nat) : runN tabN s (flipB xs p) = runN tabN s xs ^^^ iterN (8 * xs.length - p) 1 := by
  induction xs generalizing p s with
  | nil => simp at h
  | cons c xs ih =>
    rw [List.length_cons] at h ⊢
    by_cases hp : p < 8
    · have e0 : p / 8 = 0 := by omega
      have em : p % 8 = p := by omega
      have e : flipB (c :: xs) p = UInt8.ofNat (c.toNat ^^^ 2 ^ p) :: xs := by
        unfold flipB
        rw [e0, em]
        rfl
      rw [e]
      show runN tabN (nextN tabN s _) xs = runN tabN (nextN tabN s c) xs ^^^ _
      have hn : nextN tabN s (UInt8.ofNat (c.toNat ^^^ 2 ^ p)) = nextN tabN s c ^^^ iterN 8 (2 ^ p) := by
        rw [next_iter, next_iter, flip_byte c p hp, ← Nat.xor_assoc, iterN_xor]
      rw [hn, run_turn, ← iterN_add, show 8 * xs.length + 8 = 8 * (xs.length + 1) by omega, iterN_bit _ _ (by omega)]
    · have e : flipB (c :: xs) p = c :: flipB xs (p - 8) := by
        unfold flipB
        obtain ⟨q, rfl⟩ : ∃ q, p = q + 8 := ⟨p - 8, by omega⟩
        rw [show (q + 8) / 8 = q / 8 + 1 by omega, show (q + 8) % 8 = q % 8 by omega, show q + 8 - 8 = q by omega]
        rfl
      rw [e]
      show runN tabN (nextN tabN s c) (flipB xs (p - 8)) = runN tabN (nextN tabN s c) xs ^^^ _
      rw [ih _ (by omega), show 8 * xs.length - (p - 8) = 8 * (xs.length + 1) - p by omega]

/-- The bits of v below i, turned from place k on. -/
def burstB (xs : List UInt8) (k v : Nat) : Nat → List UInt8
  | 0 => xs
  | i + 1 => if v / 2 ^ i % 2 = 1 then flipB (burstB xs k v i) (k + i) else burstB xs k v i
theorem burstB_length (xs : List UInt8) (k v i : Nat) : (burstB xs k v i).length = xs.length := by
  induction i with
  | zero => rfl
  | succ i ih =>
    unfold burstB
    split
    · rw [flipB_length, ih]
    · exact ih
theorem low_next (v i : Nat) : v % 2 ^ (i + 1) = (v % 2 ^ i) ^^^ (if v / 2 ^ i % 2 = 1 then 2 ^ i else 0) := by
  apply Nat.eq_of_testBit_eq
  intro j
  have hb : v.testBit i = decide (v / 2 ^ i % 2 = 1) := by rw [Nat.testBit_eq_decide_div_mod_eq]
  rw [Nat.testBit_xor, Nat.testBit_mod_two_pow, Nat.testBit_mod_two_pow]
  by_cases hj : j = i
  · subst hj
    by_cases h : v / 2 ^ j % 2 = 1
    · simp [h, hb]
    · simp [h, hb]
  · have h2 : (if v / 2 ^ i % 2 = 1 then 2 ^ i else 0).testBit j = false := by
      split
      · rw [Nat.testBit_two_pow]; simp; omega
      · exact Nat.zero_testBit j
    rw [h2]
    by_cases hlt : j < i
    · simp [hlt, show j < i + 1 by omega]
    · simp [hlt, show ¬ j < i + 1 by omega]
theorem run_burst (xs : List UInt8) (k v i : Nat) (hi : i ≤ 32) (hk : k + 32 ≤ 8 * xs.length) (s : Nat) :
    runN tabN s (burstB xs k v i) = runN tabN s xs ^^^ iterN (8 * xs.length - k) (v % 2 ^ i) := by
  induction i with
  | zero => rw [Nat.pow_zero, Nat.mod_one, iterN_none, Nat.xor_zero]; rfl
  | succ i ih =>
    have ih' := ih (by omega)
    rw [low_next, iterN_xor]
    unfold burstB
    split
    · rw [run_flip _ _ (by rw [burstB_length]; omega), ih', burstB_length, Nat.xor_assoc, iterN_bit _ _ (by omega), show 8 * xs.length - (k + i) = 8 * xs.length - k - i by omega]
    · rw [iterN_none, Nat.xor_zero]
      exact ih'
theorem burst_sum (xs : List UInt8) (k v : Nat) (hk : k + 32 ≤ 8 * xs.length) (hv : v < 4294967296) : onN tabN 0 (burstB xs k v 32) = onN tabN 0 xs ↔ v = 0 := by
  have h := run_burst xs k v 32 (Nat.le_refl _) hk (4294967295 - 0)
  rw [show v % 2 ^ 32 = v by omega] at h
  have l1 := runN_lt tabN tabN_lt (burstB xs k v 32) (4294967295 - 0) (by omega)
  have l2 := runN_lt tabN tabN_lt xs (4294967295 - 0) (by omega)
  unfold onN
  constructor
  · intro e
    have e' : runN tabN (4294967295 - 0) (burstB xs k v 32) = runN tabN (4294967295 - 0) xs := by omega
    rw [e'] at h
    have hz : iterN (8 * xs.length - k) v = 0 := by
      have h' := congrArg (fun z => runN tabN (4294967295 - 0) xs ^^^ z) h
      simp only [← Nat.xor_assoc, Nat.xor_self, Nat.zero_xor] at h'
      exact h'.symm
    exact iterN_zero hv hz
  · rintro rfl
    rw [iterN_none, Nat.xor_zero] at h
    rw [h]
end Go.Proofs.Ytgemjdacnomnhaa
