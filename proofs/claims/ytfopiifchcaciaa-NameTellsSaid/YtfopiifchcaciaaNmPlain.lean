/-
  Names, plainly: what the names of files are, what they tell, and the numbers that a list of names has. No program.
-/
import Derived.Lib.Bytealg
import Derived.Lib.SlicesCompact
import Derived.Sort.Walk0
namespace Go.Proofs.Ytfopiifchcaciaa

/-- The last i digits of a number. -/
def digs (n : Nat) : Nat → List UInt8
  | 0 => []
  | i + 1 => UInt8.ofNat (48 + n / 10 ^ i % 10) :: digs n i
theorem digs_length (n : Nat) : ∀ i, (digs n i).length = i
  | 0 => rfl
  | i + 1 => by simp [digs, digs_length n i]

/-- A file's name. -/
def ofP (k n : Int) : List UInt8 :=
  if n < 0 ∨ n > 99999999 then [] else if k = 1 then 115 :: digs n.toNat 8 else if k = 2 then 104 :: digs n.toNat 8 else if k = 3 ∧ n = 0 then [109] else if k = 4 ∧ n = 0 then [116] else []

def isDig (c : UInt8) : Bool := decide (48 ≤ c.toNat ∧ c.toNat ≤ 57)
def val (acc : Nat) (r : List UInt8) : Nat := r.foldl (fun a c => 10 * a + (c.toNat - 48)) acc
theorem val_nil (acc : Nat) : val acc [] = acc := rfl
theorem val_cons (acc : Nat) (c : UInt8) (r : List UInt8) : val acc (c :: r) = val (10 * acc + (c.toNat - 48)) r := by simp only [val, List.foldl_cons]
/-- What a name tells. -/
def parseP : List UInt8 → Option (Int × Int)
  | [] => none
  | c :: r => if r.length = 8 ∧ r.all isDig = true then (if c = 115 then some (1, (val 0 r : Nat)) else if c = 104 then some (2, (val 0 r : Nat)) else none)
    else if r = [] then (if c = 109 then some (3, 0) else if c = 116 then some (4, 0) else none) else none
theorem parse_cons (c : UInt8) (r : List UInt8) : parseP (c :: r) = if r.length = 8 ∧ r.all isDig = true then (if c = 115 then some (1, ((val 0 r : Nat) : Int)) else if c = 104 then some (2, ((val 0 r : Nat) : Int)) else none)
    else if r = [] then (if c = 109 then some (3, 0) else if c = 116 then some (4, 0) else none) else none := rfl
/-- .. as three answers. -/
def trip : Option (Int × Int) → Int × Int × Bool
  | none => (0, 0, false)
  | some (k, n) => (k, n, true)

theorem dig_nat (x : Nat) (h : x < 10) : (UInt8.ofNat (48 + x)).toNat = 48 + x := by
  simp [UInt8.toNat_ofNat']
  omega
theorem dig_is (x : Nat) (h : x < 10) : isDig (UInt8.ofNat (48 + x)) = true := by
  unfold isDig
  rw [dig_nat x h]
  exact decide_eq_true (by omega)
theorem digs_all (n : Nat) : ∀ i, (digs n i).all isDig = true
  | 0 => rfl
  | i + 1 => by
    rw [digs, List.all_cons, digs_all n i, dig_is _ (Nat.mod_lt _ (by omega))]
    rfl
theorem mod_next (n i : Nat) : 10 ^ i * (n / 10 ^ i % 10) + n % 10 ^ i = n % 10 ^ (i + 1) := by
  rw [Nat.pow_succ, Nat.mod_mul, Nat.add_comm]
theorem val_digs (n : Nat) : ∀ (i acc : Nat), val acc (digs n i) = acc * 10 ^ i + n % 10 ^ i
  | 0, acc => by rw [digs, val_nil]; omega
  | i + 1, acc => by
    have h : n / 10 ^ i % 10 < 10 := Nat.mod_lt _ (by omega)
    rw [digs, val_cons, val_digs n i, dig_nat _ h, ← mod_next n i, show 48 + n / 10 ^ i % 10 - 48 = n / 10 ^ i % 10 by omega, Nat.add_mul, Nat.pow_succ]
    have e1 : 10 * acc * 10 ^ i = acc * (10 ^ i * 10) := by rw [Nat.mul_comm 10 acc, Nat.mul_assoc, Nat.mul_comm 10 (10 ^ i)]
    have e2 : n / 10 ^ i % 10 * 10 ^ i = 10 ^ i * (n / 10 ^ i % 10) := Nat.mul_comm _ _
    omega
theorem val_lt : ∀ (r : List UInt8) (acc : Nat), r.all isDig = true → val acc r < (acc + 1) * 10 ^ r.length
  | [], acc, _ => by rw [val_nil]; simp
  | c :: r, acc, h => by
    rw [List.all_cons, Bool.and_eq_true] at h
    have hc := of_decide_eq_true h.1
    have := val_lt r (10 * acc + (c.toNat - 48)) h.2
    rw [val_cons, List.length_cons, Nat.pow_succ]
    have e : (acc + 1) * (10 ^ r.length * 10) = (10 * acc + 10) * 10 ^ r.length := by
      rw [Nat.mul_comm (10 ^ r.length) 10, ← Nat.mul_assoc, Nat.add_mul, Nat.mul_comm acc 10, Nat.one_mul]
    have e2 : (10 * acc + (c.toNat - 48) + 1) * 10 ^ r.length ≤ (10 * acc + 10) * 10 ^ r.length := Nat.mul_le_mul_right _ (by omega)
    omega
/-- What digits tell has these as its digits. -/
theorem digs_val : ∀ (r : List UInt8) (acc : Nat), r.all isDig = true → digs (val acc r) r.length = r
  | [], _, _ => rfl
  | c :: r, acc, h => by
    rw [List.all_cons, Bool.and_eq_true] at h
    have hc := of_decide_eq_true h.1
    have hm : ∀ (x y : List UInt8) (a : Nat), val a (x ++ y) = val (val a x) y := by
      intro x
      induction x with
      | nil => intro y a; rfl
      | cons u x ih => intro y a; rw [List.cons_append, val_cons, val_cons, ih y]
    have key : ∀ (x : List UInt8) (a : Nat), x.all isDig = true → val a x / 10 ^ x.length = a := by
      intro x
      induction x with
      | nil => intro a _; rw [val_nil]; simp
      | cons u x ih =>
        intro a hx
        rw [List.all_cons, Bool.and_eq_true] at hx
        have hu := of_decide_eq_true hx.1
        rw [val_cons, List.length_cons, Nat.pow_succ, ← Nat.div_div_eq_div_mul, ih _ hx.2]
        omega
    rw [val_cons, List.length_cons, digs, digs_val r _ h.2, key r _ h.2]
    congr 1
    apply UInt8.toNat_inj.1
    rw [dig_nat _ (Nat.mod_lt _ (by omega))]
    omega

theorem ofP_num (k n : Int) (h : ofP k n ≠ []) : 0 ≤ n ∧ n ≤ 99999999 := by
  unfold ofP at h
  split at h
  · exact absurd rfl h
  · omega
/-- There .. -/
theorem parse_of (k n : Int) (h : ofP k n ≠ []) : parseP (ofP k n) = some (k, n) := by
  have hn := ofP_num k n h
  have hv : ((val 0 (digs n.toNat 8) : Nat) : Int) = n := by
    rw [val_digs]
    omega
  unfold ofP at *
  rw [if_neg (by omega)] at *
  split at h
  · rename_i hk
    subst hk
    rw [if_pos rfl, parse_cons, if_pos ⟨digs_length _ _, digs_all _ _⟩, if_pos rfl, hv]
  · rename_i hk1
    rw [if_neg hk1]
    split at h
    · rename_i hk
      subst hk
      rw [if_pos rfl, parse_cons, if_pos ⟨digs_length _ _, digs_all _ _⟩, if_neg (by decide), if_pos rfl, hv]
    · rename_i hk2
      rw [if_neg hk2]
      split at h
      · rename_i hk
        rw [if_pos hk, hk.1, hk.2]
        decide
      · rename_i hk3
        rw [if_neg hk3]
        split at h
        · rename_i hk
          rw [if_pos hk, hk.1, hk.2]
          decide
        · exact absurd rfl h
theorem ofP_nil (k n : Int) (h : ofP k n = []) : parseP (ofP k n) = none := by rw [h]; rfl
/-- .. and back. -/
theorem of_parse (s : List UInt8) (k n : Int) (h : parseP s = some (k, n)) : ofP k n = s := by
  match s with
  | [] => simp [parseP] at h
  | c :: r =>
    rw [parse_cons] at h
    split at h
    · rename_i hr
      have hl := val_lt r 0 hr.2
      rw [hr.1] at hl
      have hd := digs_val r 0 hr.2
      rw [hr.1] at hd
      split at h
      · rename_i hc
        injection h with h
        injection h with h1 h2
        subst h1 h2 hc
        unfold ofP
        rw [if_neg (by omega), if_pos rfl, Int.toNat_natCast, hd]
      · split at h
        · rename_i hc
          injection h with h
          injection h with h1 h2
          subst h1 h2 hc
          unfold ofP
          rw [if_neg (by omega), if_neg (by decide), if_pos rfl, Int.toNat_natCast, hd]
        · cases h
    · split at h
      · rename_i hr
        subst hr
        split at h
        · rename_i hc
          injection h with h
          injection h with h1 h2
          subst h1 h2 hc
          rfl
        · split at h
          · rename_i hc
            injection h with h
            injection h with h1 h2
            subst h1 h2 hc
            rfl
          · cases h
      · cases h
theorem parse_kind (s : List UInt8) (k n : Int) (h : parseP s = some (k, n)) : 1 ≤ k ∧ k ≤ 4 ∧ 0 ≤ n ∧ n ≤ 99999999 ∧ (2 < k → n = 0) ∧ s ≠ [] := by
  have h2 := of_parse s k n h
  have hs : s ≠ [] := fun e => by rw [e] at h; simp [parseP] at h
  have hn := ofP_num k n (by rw [h2]; exact hs)
  unfold ofP at h2
  rw [if_neg (by omega)] at h2
  refine ⟨?_, ?_, hn.1, hn.2, ?_, hs⟩
  all_goals
    split at h2
    · omega
    · split at h2
      · omega
      · split at h2
        · omega
        · split at h2
          · omega
          · exact absurd h2.symm hs

/-- What the document's answer makes of the bytes behind the first one. -/
def rnum (acc : Int) (r : List UInt8) : Int := r.foldl (fun a c => 10 * a + Int.tmod ((c.toNat : Int) - 48) 10) acc
theorem rnum_nil (acc : Int) : rnum acc [] = acc := rfl
theorem rnum_cons (acc : Int) (c : UInt8) (r : List UInt8) : rnum acc (c :: r) = rnum (10 * acc + Int.tmod ((c.toNat : Int) - 48) 10) r := by simp only [rnum, List.foldl_cons]
theorem rnum_val : ∀ (r : List UInt8) (acc : Nat), r.all isDig = true → rnum acc r = (val acc r : Nat)
  | [], _, _ => rfl
  | c :: r, acc, h => by
    rw [List.all_cons, Bool.and_eq_true] at h
    have hc := of_decide_eq_true h.1
    rw [rnum_cons, val_cons, ← rnum_val r _ h.2]
    congr 1
    rw [Int.tmod_eq_emod_of_nonneg (by omega)]
    omega
theorem rnum_append : ∀ (x : List UInt8) (c : UInt8) (acc : Int), rnum acc (x ++ [c]) = 10 * rnum acc x + Int.tmod ((c.toNat : Int) - 48) 10
  | [], c, acc => by rw [List.nil_append, rnum_cons, rnum_nil, rnum_nil]
  | u :: x, c, acc => by rw [List.cons_append, rnum_cons, rnum_cons, rnum_append x c]
theorem rnum_bound : ∀ (r : List UInt8) (acc : Int), -(10 ^ r.length) * (acc.natAbs + 1) < rnum acc r ∧ rnum acc r < 10 ^ r.length * (acc.natAbs + 1)
  | [], acc => by rw [rnum_nil]; simp; omega
  | c :: r, acc => by
    have := rnum_bound r (10 * acc + Int.tmod ((c.toNat : Int) - 48) 10)
    have hb : (10 * acc + Int.tmod ((c.toNat : Int) - 48) 10).natAbs + 1 ≤ 10 * (acc.natAbs + 1) := by
      have h1 : Int.tmod ((c.toNat : Int) - 48) 10 < 10 := Int.tmod_lt_of_pos _ (by omega)
      have h2 : -10 < Int.tmod ((c.toNat : Int) - 48) 10 := by
        have := Int.tmod_lt_of_pos (-((c.toNat : Int) - 48)) (show (0 : Int) < 10 by omega)
        rw [Int.neg_tmod] at this
        omega
      omega
    rw [rnum_cons, List.length_cons]
    have hp : (0 : Int) < 10 ^ r.length := Int.pow_pos (by omega)
    have e : (10 : Int) ^ (r.length + 1) * ((acc.natAbs : Nat) + 1 : Int) = 10 ^ r.length * (10 * ((acc.natAbs : Nat) + 1 : Int)) := by
      rw [Int.pow_succ, Int.mul_assoc]
    have hle : (10 : Int) ^ r.length * (((10 * acc + Int.tmod ((c.toNat : Int) - 48) 10).natAbs : Nat) + 1 : Int) ≤ 10 ^ r.length * (10 * ((acc.natAbs : Nat) + 1 : Int)) := Int.mul_le_mul_of_nonneg_left (by omega) (by omega)
    rw [Int.neg_mul] at *
    omega

/-- The answer's way: the first kind whose name it is. -/
theorem ref_kind (s : List UInt8) (k : Int) (m : Int) (hs : s ≠ []) (h : ofP k m = s) : parseP s = some (k, m) := by
  subst h
  exact parse_of k m hs
theorem ref_num (s : List UInt8) (k n : Int) (h : parseP s = some (k, n)) (hk : k ≤ 2) : rnum 0 ((s.drop 1).take 8) = n := by
  match s with
  | [] => simp [parseP] at h
  | c :: r =>
    have h0 := h
    rw [parse_cons] at h
    split at h
    · rename_i hr
      have e : ((c :: r).drop 1).take 8 = r := by
        rw [List.drop_one, List.tail_cons, List.take_of_length_le (by omega)]
      rw [e, show (0 : Int) = ((0 : Nat) : Int) from rfl, rnum_val r 0 hr.2]
      split at h
      · injection h with h
        injection h
      · split at h
        · injection h with h
          injection h
        · cases h
    · split at h
      · split at h
        · injection h with h
          injection h
          omega
        · split at h
          · injection h with h
            injection h
            omega
          · cases h
      · cases h
end Go.Proofs.Ytfopiifchcaciaa
