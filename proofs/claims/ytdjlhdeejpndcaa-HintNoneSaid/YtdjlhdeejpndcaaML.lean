/-
  Texts that the statements' proofs lean on, one behind the other.
-/
import Derived.Test.YtdjlhdeejpndcaaPlain
import Derived.Test.YtdjlhdeejpndcaaFramePlain
/-
  Plain arithmetic of sums: a step, the table and a sum go with xor, and nothing but 0 makes 0.
-/
namespace Go.Proofs.Ytdjlhdeejpndcaa

/-! What xor does to it. -/
theorem xor_mod2 (a b : Nat) : (a ^^^ b) % 2 = (a % 2 + b % 2) % 2 := by
  have h := Nat.xor_mod_two_pow (a := a) (b := b) (n := 1)
  rw [Nat.pow_one] at h
  rw [h]
  have ha : a % 2 = 0 ∨ a % 2 = 1 := by omega
  have hb : b % 2 = 0 ∨ b % 2 = 1 := by omega
  rcases ha with ha | ha <;> rcases hb with hb | hb <;> rw [ha, hb] <;> rfl
theorem xor_half (a b : Nat) : (a ^^^ b) / 2 = a / 2 ^^^ b / 2 := by
  apply Nat.eq_of_testBit_eq
  intro i
  simp [Nat.testBit_div_two]
theorem xor4 (a b c d : Nat) : (a ^^^ b) ^^^ (c ^^^ d) = (a ^^^ c) ^^^ (b ^^^ d) := by
  apply Nat.eq_of_testBit_eq
  intro i
  simp only [Nat.testBit_xor]
  cases a.testBit i <;> cases b.testBit i <;> cases c.testBit i <;> cases d.testBit i <;> rfl
theorem xor_none {a b : Nat} (h : a ^^^ b = 0) : a = b := by
  apply Nat.eq_of_testBit_eq
  intro i
  have h' : (a ^^^ b).testBit i = false := by rw [h]; exact Nat.zero_testBit i
  rw [Nat.testBit_xor] at h'
  revert h'
  cases a.testBit i <;> cases b.testBit i <;> simp
theorem stepN_xor (a b : Nat) : stepN (a ^^^ b) = stepN a ^^^ stepN b := by
  have hm := xor_mod2 a b
  have ha : a % 2 = 0 ∨ a % 2 = 1 := by omega
  have hb : b % 2 = 0 ∨ b % 2 = 1 := by omega
  unfold stepN
  rw [xor_half]
  rcases ha with ha | ha <;> rcases hb with hb | hb <;> rw [hm, ha, hb] <;> simp
  · rw [Nat.xor_assoc]
  · rw [Nat.xor_assoc, Nat.xor_assoc, Nat.xor_comm (b / 2)]
  · rw [xor4, Nat.xor_self, Nat.xor_zero]
theorem iterN_xor (k a b : Nat) : iterN k (a ^^^ b) = iterN k a ^^^ iterN k b := by
  induction k with
  | zero => rfl
  | succ k ih => simp only [iterN]; rw [ih, stepN_xor]
theorem tabN_xor (a b : Nat) : tabN (a ^^^ b) = tabN a ^^^ tabN b := iterN_xor 8 a b
theorem stepN_zero {n : Nat} (h : n < 4294967296) (hz : stepN n = 0) : n = 0 := by
  unfold stepN at hz
  split at hz
  · have := xor_none hz
    omega
  · omega
theorem iterN_none (k : Nat) : iterN k 0 = 0 := by
  induction k with
  | zero => rfl
  | succ k ih => simp only [iterN]; rw [ih]; rfl
theorem iterN_zero {k n : Nat} (h : n < 4294967296) (hz : iterN k n = 0) : n = 0 := by
  induction k with
  | zero => exact hz
  | succ k ih => exact ih (stepN_zero (iterN_lt k n h) hz)
theorem tabN_inj {a b : Nat} (ha : a < 256) (hb : b < 256) (h : tabN a = tabN b) : a = b := by
  have hx : a ^^^ b < 2 ^ 8 := Nat.xor_lt_two_pow (by omega) (by omega)
  have hz : tabN (a ^^^ b) = 0 := by rw [tabN_xor, h, Nat.xor_self]
  exact xor_none (iterN_zero (k := 8) (by omega) hz)
theorem tab_same (x y : Nat) (hx : x < 256) (hy : y < 256) : (((tabN x : Nat) : Int) == ((tabN y : Nat) : Int)) = ((x : Int) == (y : Int)) := by
  by_cases h : x = y
  · subst h; simp
  · have h' : tabN x ≠ tabN y := fun e => h (tabN_inj hx hy e)
    rw [beq_eq_false_iff_ne.2 (by omega), beq_eq_false_iff_ne.2 (by omega)]
end Go.Proofs.Ytdjlhdeejpndcaa

/-
  Plain arithmetic of bursts: turning one bit of some bytes turns the sum by what that bit comes to; bits within 32 that stand together come to 0 together only if there is none.
-/
namespace Go.Proofs.Ytdjlhdeejpndcaa

theorem stepN_even (a : Nat) : stepN (2 * a) = a := by
  unfold stepN
  rw [if_neg (by omega)]
  omega
theorem iterN_pow (k a : Nat) : iterN k (2 ^ k * a) = a := by
  induction k generalizing a with
  | zero => simp [iterN]
  | succ k ih =>
    show stepN (iterN k (2 ^ (k + 1) * a)) = a
    rw [Nat.pow_succ, Nat.mul_assoc, ih, stepN_even]
theorem iterN_bit (N i : Nat) (h : i ≤ N) : iterN N (2 ^ i) = iterN (N - i) 1 := by
  have e : N = (N - i) + i := by omega
  have h1 := iterN_pow i 1
  rw [Nat.mul_one] at h1
  conv => lhs; rw [e, iterN_add, h1]
theorem split256 (x : Nat) : x = (256 * (x / 256)) ^^^ (x % 256) := by
  apply Nat.eq_of_testBit_eq
  intro i
  rw [Nat.testBit_xor, show 256 = 2 ^ 8 by rfl, Nat.testBit_two_pow_mul, Nat.testBit_mod_two_pow]
  by_cases h : i < 8
  · have h8 : ¬ 8 ≤ i := by omega
    simp [h, h8]
  · rw [Nat.testBit_div_two_pow]
    simp [h, show 8 ≤ i by omega, show i - 8 + 8 = i by omega]
theorem xor_high (m : Nat) (c : UInt8) : (m ^^^ c.toNat) / 256 = m / 256 := by
  apply Nat.eq_of_testBit_eq
  intro i
  rw [show 256 = 2 ^ 8 by rfl, Nat.testBit_div_two_pow, Nat.testBit_div_two_pow, Nat.testBit_xor]
  have hc : c.toNat < 2 ^ (i + 8) := Nat.lt_of_lt_of_le c.toNat_lt (Nat.pow_le_pow_right (by omega) (by omega))
  rw [Nat.testBit_lt_two_pow hc]
  simp
theorem next_iter (m : Nat) (c : UInt8) : nextN tabN m c = iterN 8 (m ^^^ c.toNat) := by
  conv => rhs; rw [split256 (m ^^^ c.toNat), iterN_xor, show 256 = 2 ^ 8 by rfl, iterN_pow 8, show 2 ^ 8 = 256 by rfl, xor_high]
  rfl
theorem run_turn (d : Nat) (bs : List UInt8) (s : Nat) : runN tabN (s ^^^ d) bs = runN tabN s bs ^^^ iterN (8 * bs.length) d := by
  induction bs generalizing s d with
  | nil => rfl
  | cons c bs ih =>
    show runN tabN (nextN tabN (s ^^^ d) c) bs = runN tabN (nextN tabN s c) bs ^^^ _
    have h : nextN tabN (s ^^^ d) c = nextN tabN s c ^^^ iterN 8 d := by
      rw [next_iter, next_iter, ← iterN_xor]
      congr 1
      rw [Nat.xor_assoc, Nat.xor_assoc, Nat.xor_comm d]
    rw [h, ih, ← iterN_add, List.length_cons, show 8 * bs.length + 8 = 8 * (bs.length + 1) by omega]

/-- Bit p of some bytes turned (the lowest bit of each first). -/
def flipB (xs : List UInt8) (p : Nat) : List UInt8 := xs.set (p / 8) (UInt8.ofNat ((xs.getD (p / 8) 0).toNat ^^^ 2 ^ (p % 8)))
theorem flip_byte (c : UInt8) (r : Nat) (h : r < 8) : (UInt8.ofNat (c.toNat ^^^ 2 ^ r)).toNat = c.toNat ^^^ 2 ^ r := by
  have h1 : c.toNat ^^^ 2 ^ r < 2 ^ 8 := Nat.xor_lt_two_pow c.toNat_lt (Nat.pow_lt_pow_right (by omega) h)
  rw [UInt8.toNat_ofNat']
  exact Nat.mod_eq_of_lt (by omega)
theorem flipB_length (xs : List UInt8) (p : Nat) : (flipB xs p).length = xs.length := by simp [flipB]
theorem run_flip (xs : List UInt8) (p : Nat) (h : p < 8 * xs.length) (s : Nat) : runN tabN s (flipB xs p) = runN tabN s xs ^^^ iterN (8 * xs.length - p) 1 := by
  induction xs generalizing p s with
  | nil => simp at h
  | cons c xs ih =>
    rw [List.length_cons] at h ⊢
    by_cases hp : p < 8
    · have e0 : p / 8 = 0 := by omega
      have em : p % 8 = p := by omega
      have e : flipB (c :: xs) p = UInt8.ofNat (c.toNat ^^^ 2 ^ p) :: xs := by
        unfold flipB
        rw [e0, em]
        rfl
      rw [e]
      show runN tabN (nextN tabN s _) xs = runN tabN (nextN tabN s c) xs ^^^ _
      have hn : nextN tabN s (UInt8.ofNat (c.toNat ^^^ 2 ^ p)) = nextN tabN s c ^^^ iterN 8 (2 ^ p) := by
        rw [next_iter, next_iter, flip_byte c p hp, ← Nat.xor_assoc, iterN_xor]
      rw [hn, run_turn, ← iterN_add, show 8 * xs.length + 8 = 8 * (xs.length + 1) by omega, iterN_bit _ _ (by omega)]
    · have e : flipB (c :: xs) p = c :: flipB xs (p - 8) := by
        unfold flipB
        obtain ⟨q, rfl⟩ : ∃ q, p = q + 8 := ⟨p - 8, by omega⟩
        rw [show (q + 8) / 8 = q / 8 + 1 by omega, show (q + 8) % 8 = q % 8 by omega, show q + 8 - 8 = q by omega]
        rfl
      rw [e]
      show runN tabN (nextN tabN s c) (flipB xs (p - 8)) = runN tabN (nextN tabN s c) xs ^^^ _
      rw [ih _ (by omega), show 8 * xs.length - (p - 8) = 8 * (xs.length + 1) - p by omega]

/-- The bits of v below i, turned from place k on. -/
def burstB (xs : List UInt8) (k v : Nat) : Nat → List UInt8
  | 0 => xs
  | i + 1 => if v / 2 ^ i % 2 = 1 then flipB (burstB xs k v i) (k + i) else burstB xs k v i
theorem burstB_length (xs : List UInt8) (k v i : Nat) : (burstB xs k v i).length = xs.length := by
  induction i with
  | zero => rfl
  | succ i ih =>
    unfold burstB
    split
    · rw [flipB_length, ih]
    · exact ih
theorem low_next (v i : Nat) : v % 2 ^ (i + 1) = (v % 2 ^ i) ^^^ (if v / 2 ^ i % 2 = 1 then 2 ^ i else 0) := by
  apply Nat.eq_of_testBit_eq
  intro j
  have hb : v.testBit i = decide (v / 2 ^ i % 2 = 1) := by rw [Nat.testBit_eq_decide_div_mod_eq]
  rw [Nat.testBit_xor, Nat.testBit_mod_two_pow, Nat.testBit_mod_two_pow]
  by_cases hj : j = i
  · subst hj
    by_cases h : v / 2 ^ j % 2 = 1
    · simp [h, hb]
    · simp [h, hb]
  · have h2 : (if v / 2 ^ i % 2 = 1 then 2 ^ i else 0).testBit j = false := by
      split
      · rw [Nat.testBit_two_pow]; simp; omega
      · exact Nat.zero_testBit j
    rw [h2]
    by_cases hlt : j < i
    · simp [hlt, show j < i + 1 by omega]
    · simp [hlt, show ¬ j < i + 1 by omega]
theorem run_burst (xs : List UInt8) (k v i : Nat) (hi : i ≤ 32) (hk : k + 32 ≤ 8 * xs.length) (s : Nat) :
    runN tabN s (burstB xs k v i) = runN tabN s xs ^^^ iterN (8 * xs.length - k) (v % 2 ^ i) := by
  induction i with
  | zero => rw [Nat.pow_zero, Nat.mod_one, iterN_none, Nat.xor_zero]; rfl
  | succ i ih =>
    have ih' := ih (by omega)
    rw [low_next, iterN_xor]
    unfold burstB
    split
    · rw [run_flip _ _ (by rw [burstB_length]; omega), ih', burstB_length, Nat.xor_assoc, iterN_bit _ _ (by omega), show 8 * xs.length - (k + i) = 8 * xs.length - k - i by omega]
    · rw [iterN_none, Nat.xor_zero]
      exact ih'
theorem burst_sum (xs : List UInt8) (k v : Nat) (hk : k + 32 ≤ 8 * xs.length) (hv : v < 4294967296) : onN tabN 0 (burstB xs k v 32) = onN tabN 0 xs ↔ v = 0 := by
  have h := run_burst xs k v 32 (Nat.le_refl _) hk (4294967295 - 0)
  rw [show v % 2 ^ 32 = v by omega] at h
  have l1 := runN_lt tabN tabN_lt (burstB xs k v 32) (4294967295 - 0) (by omega)
  have l2 := runN_lt tabN tabN_lt xs (4294967295 - 0) (by omega)
  unfold onN
  constructor
  · intro e
    have e' : runN tabN (4294967295 - 0) (burstB xs k v 32) = runN tabN (4294967295 - 0) xs := by omega
    rw [e'] at h
    have hz : iterN (8 * xs.length - k) v = 0 := by
      have h' := congrArg (fun z => runN tabN (4294967295 - 0) xs ^^^ z) h
      simp only [← Nat.xor_assoc, Nat.xor_self, Nat.zero_xor] at h'
      exact h'.symm
    exact iterN_zero hv hz
  · rintro rfl
    rw [iterN_none, Nat.xor_zero] at h
    rw [h]
end Go.Proofs.Ytdjlhdeejpndcaa

/-
  What holds of frames: what is in a frame is got of it; what is got has the frame; a frame that is cut is short; a frame in which something within 32 bits has turned is not got as one of its length. No program in sight.
-/
namespace Go.Proofs.Ytdjlhdeejpndcaa

theorem told_head (n : Nat) (h : n ≤ 8192) (x : List UInt8) : toldN (headB n ++ x) = n := by
  unfold toldN headB
  simp only [List.cons_append, List.getD_cons_zero, List.getD_cons_succ, UInt8.toNat_ofNat']
  omega
theorem take_head (n : Nat) (x : List UInt8) : (headB n ++ x).take 4 = headB n := by
  rw [List.take_append_of_le_length (by rw [headB_length]; omega), List.take_of_length_le (by rw [headB_length]; omega)]

theorem first_back (b more : List UInt8) (h1 : 1 ≤ b.length) (h2 : b.length ≤ 8192) : firstB (frameB b ++ more) = (b, b.length + 8, 0) := by
  have e : frameB b ++ more = headB b.length ++ (b ++ (tailB (headB b.length ++ b) ++ more)) := by unfold frameB; simp [List.append_assoc]
  have hl : (frameB b ++ more).length = b.length + 8 + more.length := by rw [List.length_append, frameB_length]
  unfold firstB
  rw [if_neg (by omega)]
  have ht : toldN (frameB b ++ more) = b.length := by rw [e]; exact told_head _ h2 _
  have hk : (frameB b ++ more).take 4 = headB b.length := by rw [e]; exact take_head _ _
  rw [ht, hk, if_neg (fun h => h.elim (fun h => h ⟨h1, h2⟩) (fun h => h rfl)), if_neg (by omega)]
  have hx : (frameB b ++ more).take (b.length + 4) = headB b.length ++ b := by
    unfold frameB
    rw [List.append_assoc (headB b.length ++ b), List.take_append_of_le_length (by rw [List.length_append, headB_length]; omega), List.take_of_length_le (by rw [List.length_append, headB_length]; omega)]
  have hy : ((frameB b ++ more).drop (b.length + 4)).take 4 = tailB (headB b.length ++ b) := by
    unfold frameB
    rw [List.append_assoc (headB b.length ++ b), List.drop_left' (by rw [List.length_append, headB_length]; omega), List.take_left' (tailB_length _)]
  rw [hx, hy, if_neg (fun h => h rfl)]
  have hz : ((frameB b ++ more).drop 4).take b.length = b := by
    rw [e, List.drop_left' (headB_length _), List.take_left' rfl]
  rw [hz]

theorem first_got {c y : List UInt8} {k : Nat} (h : firstB c = (y, k, 0)) : 9 ≤ k ∧ k ≤ c.length ∧ putB y = c.take k := by
  unfold firstB at h
  by_cases h4 : c.length < 4
  · rw [if_pos h4] at h; simp at h
  rw [if_neg h4] at h
  by_cases hm : ¬ (1 ≤ toldN c ∧ toldN c ≤ 8192) ∨ c.take 4 ≠ headB (toldN c)
  · rw [if_pos hm] at h; simp at h
  rw [if_neg hm] at h
  by_cases h8 : c.length < toldN c + 8
  · rw [if_pos h8] at h; simp at h
  rw [if_neg h8] at h
  by_cases hx : (c.drop (toldN c + 4)).take 4 ≠ tailB (c.take (toldN c + 4))
  · rw [if_pos hx] at h; simp at h
  rw [if_neg hx] at h
  simp only [Prod.mk.injEq, and_true] at h
  obtain ⟨hy, hk⟩ := h
  have hr : 1 ≤ toldN c ∧ toldN c ≤ 8192 := Decidable.not_not.1 fun h => hm (.inl h)
  have hh : c.take 4 = headB (toldN c) := Decidable.not_not.1 fun h => hm (.inr h)
  have ht : (c.drop (toldN c + 4)).take 4 = tailB (c.take (toldN c + 4)) := Decidable.not_not.1 hx
  generalize toldN c = T at *
  have hyl : y.length = T := by rw [← hy, List.length_take, List.length_drop]; omega
  refine ⟨by omega, by omega, ?_⟩
  unfold putB
  rw [hyl, if_pos hr]
  unfold frameB
  have h1 : c.take (T + 4) = headB T ++ y := by
    rw [← hy, ← hh, ← List.take_add, Nat.add_comm]
  rw [hyl, ← h1, ← ht, ← hk, ← List.take_add]

theorem first_ill {c y : List UInt8} {k e : Nat} (h : firstB c = (y, k, e)) (he : e ≠ 0) : y = [] ∧ (k = 0 ∨ e = 22 ∧ 9 ≤ k ∧ k ≤ c.length) := by
  unfold firstB at h
  by_cases h4 : c.length < 4
  · rw [if_pos h4] at h; simp at h; obtain ⟨rfl, rfl, rfl⟩ := h; simp
  rw [if_neg h4] at h
  by_cases hm : ¬ (1 ≤ toldN c ∧ toldN c ≤ 8192) ∨ c.take 4 ≠ headB (toldN c)
  · rw [if_pos hm] at h; simp at h; obtain ⟨rfl, rfl, rfl⟩ := h; simp
  rw [if_neg hm] at h
  by_cases h8 : c.length < toldN c + 8
  · rw [if_pos h8] at h; simp at h; obtain ⟨rfl, rfl, rfl⟩ := h; simp
  rw [if_neg h8] at h
  have hr : 1 ≤ toldN c ∧ toldN c ≤ 8192 := Decidable.not_not.1 fun h => hm (.inl h)
  by_cases hx : (c.drop (toldN c + 4)).take 4 ≠ tailB (c.take (toldN c + 4))
  · rw [if_pos hx] at h; simp at h; obtain ⟨rfl, rfl, rfl⟩ := h; refine ⟨rfl, .inr ⟨rfl, by omega, by omega⟩⟩
  · rw [if_neg hx] at h; simp at h; exact absurd h.2.2.symm he

theorem first_short_cut (b : List UInt8) (h1 : 1 ≤ b.length) (h2 : b.length ≤ 8192) (j : Nat) (hj : j < b.length + 8) : firstB ((frameB b).take j) = ([], 0, 21) := by
  have hl : ((frameB b).take j).length = j := by rw [List.length_take, frameB_length]; omega
  unfold firstB
  by_cases h4 : j < 4
  · rw [if_pos (by omega)]
  rw [if_neg (by omega)]
  have e : (frameB b).take j = headB b.length ++ ((b ++ tailB (headB b.length ++ b)).take (j - 4)) := by
    unfold frameB
    rw [List.append_assoc, List.take_append, headB_length, List.take_of_length_le (by rw [headB_length]; omega)]
  have ht : toldN ((frameB b).take j) = b.length := by rw [e]; exact told_head _ h2 _
  have hk : ((frameB b).take j).take 4 = headB b.length := by rw [e]; exact take_head _ _
  rw [ht, hk, if_neg (fun h => h.elim (fun h => h ⟨h1, h2⟩) (fun h => h rfl)), if_pos (by omega)]
end Go.Proofs.Ytdjlhdeejpndcaa
