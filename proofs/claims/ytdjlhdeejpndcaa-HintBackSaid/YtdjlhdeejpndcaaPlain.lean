/-
  Plain arithmetic of sums: a step by one bit, the table, a sum that goes on, and what xor does to them. No program in sight.
-/
namespace Go.Proofs.Ytdjlhdeejpndcaa

/-- One bit falls off. -/
def stepN (n : Nat) : Nat := if n % 2 = 1 then (n / 2) ^^^ 2197175160 else n / 2
def iterN : Nat → Nat → Nat
  | 0, n => n
  | k + 1, n => stepN (iterN k n)
theorem stepN_lt (n : Nat) (h : n < 4294967296) : stepN n < 4294967296 := by
  unfold stepN
  split
  · exact Nat.xor_lt_two_pow (n := 32) (by omega) (by omega)
  · omega
theorem iterN_lt (k n : Nat) (h : n < 4294967296) : iterN k n < 4294967296 := by
  induction k with
  | zero => exact h
  | succ k ih => exact stepN_lt _ ih
theorem iterN_add (a b n : Nat) : iterN (a + b) n = iterN a (iterN b n) := by
  induction a with
  | zero => rw [Nat.zero_add]; rfl
  | succ a ih => rw [Nat.succ_add]; show stepN _ = stepN _; rw [ih]

theorem xor_ones (s : Nat) (h : s < 4294967296) : 4294967295 ^^^ s = 4294967295 - s := by
  have h1 : (BitVec.allOnes 32 ^^^ BitVec.ofNat 32 s).toNat = 4294967295 - s := by
    rw [BitVec.allOnes_xor, BitVec.toNat_not, BitVec.toNat_ofNat, Nat.mod_eq_of_lt h]
  rw [BitVec.toNat_xor, BitVec.toNat_ofNat, Nat.mod_eq_of_lt h] at h1
  exact h1

/-- The table's place i. -/
def tabN (i : Nat) : Nat := iterN 8 i
theorem tabN_lt (i : Nat) (h : i < 256) : tabN i < 4294967296 := iterN_lt 8 i (by omega)

/-- What a byte makes of a sum, by a table. -/
def nextN (f : Nat → Nat) (s : Nat) (c : UInt8) : Nat := s / 256 ^^^ f ((s ^^^ c.toNat) % 256)
/-- A sum (turned) that goes on. -/
def runN (f : Nat → Nat) (s : Nat) (bs : List UInt8) : Nat := bs.foldl (nextN f) s
/-- A2. -/
def onN (f : Nat → Nat) (s : Nat) (bs : List UInt8) : Nat := 4294967295 - runN f (4294967295 - s) bs

theorem nextN_lt (f : Nat → Nat) (hf : ∀ i, i < 256 → f i < 4294967296) (s : Nat) (c : UInt8) (h : s < 4294967296) : nextN f s c < 4294967296 :=
  Nat.xor_lt_two_pow (n := 32) (by omega) (hf _ (by omega))
theorem runN_lt (f : Nat → Nat) (hf : ∀ i, i < 256 → f i < 4294967296) (bs : List UInt8) (s : Nat) (h : s < 4294967296) : runN f s bs < 4294967296 := by
  induction bs generalizing s with
  | nil => exact h
  | cons c bs ih => exact ih _ (nextN_lt f hf s c h)
theorem runN_snoc (f : Nat → Nat) (s : Nat) (bs : List UInt8) (k : Nat) (h : k < bs.length) : runN f s (bs.take (k + 1)) = nextN f (runN f s (bs.take k)) (bs.getD k 0) := by
  rw [List.take_succ_eq_append_getElem h]
  unfold runN
  rw [List.foldl_append]
  simp [h]
theorem runN_append (f : Nat → Nat) (s : Nat) (a b : List UInt8) : runN f s (a ++ b) = runN f (runN f s a) b := List.foldl_append
theorem runN_congr (f g : Nat → Nat) (h : ∀ i, i < 256 → f i = g i) (bs : List UInt8) (s : Nat) : runN f s bs = runN g s bs := by
  induction bs generalizing s with
  | nil => rfl
  | cons c bs ih =>
    show runN f (nextN f s c) bs = runN g (nextN g s c) bs
    rw [ih]
    unfold nextN
    rw [h _ (by omega)]
theorem onN_lt (f : Nat → Nat) (s : Nat) (bs : List UInt8) : onN f s bs < 4294967296 := by unfold onN; omega
theorem onN_on (f : Nat → Nat) (hf : ∀ i, i < 256 → f i < 4294967296) (s : Nat) (hs : s < 4294967296) (a b : List UInt8) : onN f (onN f s a) b = onN f s (a ++ b) := by
  unfold onN
  rw [runN_append]
  have := runN_lt f hf a (4294967295 - s) (by omega)
  rw [show 4294967295 - (4294967295 - runN f (4294967295 - s) a) = runN f (4294967295 - s) a by omega]
theorem onN_nil (f : Nat → Nat) (s : Nat) (hs : s < 4294967296) : onN f s [] = s := by
  unfold onN runN
  simp
  omega
theorem onN_congr (f g : Nat → Nat) (h : ∀ i, i < 256 → f i = g i) (s : Nat) (bs : List UInt8) : onN f s bs = onN g s bs := by
  unfold onN
  rw [runN_congr f g h]
end Go.Proofs.Ytdjlhdeejpndcaa
