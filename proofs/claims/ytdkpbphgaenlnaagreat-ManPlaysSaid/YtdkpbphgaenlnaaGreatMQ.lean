/-
  Texts that the statements' proofs lean on, one behind the other.
-/
import Derived.Lib.Bytealg
import Derived.Lib.SlicesCompact
import Derived.Sort.Walk0
import Derived.Test.YtdkpbphgaenlnaaGreatSteps
import Derived.LoopTactic
import Derived.IntWalk
import Derived.OwnWalk
import Derived.WalkLawsBesides
import Derived.Lib.Hide
import Derived.Lib.LazyBuf
/-
  Names, plainly: what the names of files are, what they tell, and the numbers that a list of names has. No program.
-/
namespace Go.Proofs.YtdkpbphgaenlnaaGreat

/-- The last i digits of a number. -/
def digs (n : Nat) : Nat → List UInt8
  | 0 => []
  | i + 1 => UInt8.ofNat (48 + n / 10 ^ i % 10) :: digs n i
theorem digs_length (n : Nat) : ∀ i, (digs n i).length = i
  | 0 => rfl
  | i + 1 => by simp [digs, digs_length n i]

/-- A file's name. -/
def ofP (k n : Int) : List UInt8 :=
  if n < 0 ∨ n > 99999999 then [] else if k = 1 then 115 :: digs n.toNat 8 else if k = 2 then 104 :: digs n.toNat 8 else if k = 3 ∧ n = 0 then [109] else if k = 4 ∧ n = 0 then [116] else []

def isDig (c : UInt8) : Bool := decide (48 ≤ c.toNat ∧ c.toNat ≤ 57)
def val (acc : Nat) (r : List UInt8) : Nat := r.foldl (fun a c => 10 * a + (c.toNat - 48)) acc
theorem val_nil (acc : Nat) : val acc [] = acc := rfl
theorem val_cons (acc : Nat) (c : UInt8) (r : List UInt8) : val acc (c :: r) = val (10 * acc + (c.toNat - 48)) r := by simp only [val, List.foldl_cons]
/-- What a name tells. -/
def parseP : List UInt8 → Option (Int × Int)
  | [] => none
  | c :: r => if r.length = 8 ∧ r.all isDig = true then (if c = 115 then some (1, (val 0 r : Nat)) else if c = 104 then some (2, (val 0 r : Nat)) else none)
    else if r = [] then (if c = 109 then some (3, 0) else if c = 116 then some (4, 0) else none) else none
theorem parse_cons (c : UInt8) (r : List UInt8) : parseP (c :: r) = if r.length = 8 ∧ r.all isDig = true then (if c = 115 then some (1, ((val 0 r : Nat) : Int)) else if c = 104 then some (2, ((val 0 r : Nat) : Int)) else none)
    else if r = [] then (if c = 109 then some (3, 0) else if c = 116 then some (4, 0) else none) else none := rfl
/-- .. as three answers. -/
def trip : Option (Int × Int) → Int × Int × Bool
  | none => (0, 0, false)
  | some (k, n) => (k, n, true)

theorem dig_nat (x : Nat) (h : x < 10) : (UInt8.ofNat (48 + x)).toNat = 48 + x := by
  simp [UInt8.toNat_ofNat']
  omega
theorem dig_is (x : Nat) (h : x < 10) : isDig (UInt8.ofNat (48 + x)) = true := by
  unfold isDig
  rw [dig_nat x h]
  exact decide_eq_true (by omega)
theorem digs_all (n : Nat) : ∀ i, (digs n i).all isDig = true
  | 0 => rfl
  | i + 1 => by
    rw [digs, List.all_cons, digs_all n i, dig_is _ (Nat.mod_lt _ (by omega))]
    rfl
theorem mod_next (n i : Nat) : 10 ^ i * (n / 10 ^ i % 10) + n % 10 ^ i = n % 10 ^ (i + 1) := by
  rw [Nat.pow_succ, Nat.mod_mul, Nat.add_comm]
theorem val_digs (n : Nat) : ∀ (i acc : Nat), val acc (digs n i) = acc * 10 ^ i + n % 10 ^ i
  | 0, acc => by rw [digs, val_nil]; omega
  | i + 1, acc => by
    have h : n / 10 ^ i % 10 < 10 := Nat.mod_lt _ (by omega)
    rw [digs, val_cons, val_digs n i, dig_nat _ h, ← mod_next n i, show 48 + n / 10 ^ i % 10 - 48 = n / 10 ^ i % 10 by omega, Nat.add_mul, Nat.pow_succ]
    have e1 : 10 * acc * 10 ^ i = acc * (10 ^ i * 10) := by rw [Nat.mul_comm 10 acc, Nat.mul_assoc, Nat.mul_comm 10 (10 ^ i)]
    have e2 : n / 10 ^ i % 10 * 10 ^ i = 10 ^ i * (n / 10 ^ i % 10) := Nat.mul_comm _ _
    omega
theorem val_lt : ∀ (r : List UInt8) (acc : Nat), r.all isDig = true → val acc r < (acc + 1) * 10 ^ r.length
  | [], acc, _ => by rw [val_nil]; simp
  | c :: r, acc, h => by
    rw [List.all_cons, Bool.and_eq_true] at h
    have hc := of_decide_eq_true h.1
    have := val_lt r (10 * acc + (c.toNat - 48)) h.2
    rw [val_cons, List.length_cons, Nat.pow_succ]
    have e : (acc + 1) * (10 ^ r.length * 10) = (10 * acc + 10) * 10 ^ r.length := by
      rw [Nat.mul_comm (10 ^ r.length) 10, ← Nat.mul_assoc, Nat.add_mul, Nat.mul_comm acc 10, Nat.one_mul]
    have e2 : (10 * acc + (c.toNat - 48) + 1) * 10 ^ r.length ≤ (10 * acc + 10) * 10 ^ r.length := Nat.mul_le_mul_right _ (by omega)
    omega
/-- What digits tell has these as its digits. -/
theorem digs_val : ∀ (r : List UInt8) (acc : Nat), r.all isDig = true → digs (val acc r) r.length = r
  | [], _, _ => rfl
  | c :: r, acc, h => by
    rw [List.all_cons, Bool.and_eq_true] at h
    have hc := of_decide_eq_true h.1
    have hm : ∀ (x y : List UInt8) (a : Nat), val a (x ++ y) = val (val a x) y := by
      intro x
      induction x with
      | nil => intro y a; rfl
      | cons u x ih => intro y a; rw [List.cons_append, val_cons, val_cons, ih y]
    have key : ∀ (x : List UInt8) (a : Nat), x.all isDig = true → val a x / 10 ^ x.length = a := by
      intro x
      induction x with
      | nil => intro a _; rw [val_nil]; simp
      | cons u x ih =>
        intro a hx
        rw [List.all_cons, Bool.and_eq_true] at hx
        have hu := of_decide_eq_true hx.1
        rw [val_cons, List.length_cons, Nat.pow_succ, ← Nat.div_div_eq_div_mul, ih _ hx.2]
        omega
    rw [val_cons, List.length_cons, digs, digs_val r _ h.2, key r _ h.2]
    congr 1
    apply UInt8.toNat_inj.1
    rw [dig_nat _ (Nat.mod_lt _ (by omega))]
    omega

theorem ofP_num (k n : Int) (h : ofP k n ≠ []) : 0 ≤ n ∧ n ≤ 99999999 := by
  unfold ofP at h
  split at h
  · exact absurd rfl h
  · omega
/-- There .. -/
theorem parse_of (k n : Int) (h : ofP k n ≠ []) : parseP (ofP k n) = some (k, n) := by
  have hn := ofP_num k n h
  have hv : ((val 0 (digs n.toNat 8) : Nat) : Int) = n := by
    rw [val_digs]
    omega
  unfold ofP at *
  rw [if_neg (by omega)] at *
  split at h
  · rename_i hk
    subst hk
    rw [if_pos rfl, parse_cons, if_pos ⟨digs_length _ _, digs_all _ _⟩, if_pos rfl, hv]
  · rename_i hk1
    rw [if_neg hk1]
    split at h
    · rename_i hk
      subst hk
      rw [if_pos rfl, parse_cons, if_pos ⟨digs_length _ _, digs_all _ _⟩, if_neg (by decide), if_pos rfl, hv]
    · rename_i hk2
      rw [if_neg hk2]
      split at h
      · rename_i hk
        rw [if_pos hk, hk.1, hk.2]
        decide
      · rename_i hk3
        rw [if_neg hk3]
        split at h
        · rename_i hk
          rw [if_pos hk, hk.1, hk.2]
          decide
        · exact absurd rfl h
theorem ofP_nil (k n : Int) (h : ofP k n = []) : parseP (ofP k n) = none := by rw [h]; rfl
/-- .. and back. -/
theorem of_parse (s : List UInt8) (k n : Int) (h : parseP s = some (k, n)) : ofP k n = s := by
  match s with
  | [] => simp [parseP] at h
  | c :: r =>
    rw [parse_cons] at h
    split at h
    · rename_i hr
      have hl := val_lt r 0 hr.2
      rw [hr.1] at hl
      have hd := digs_val r 0 hr.2
      rw [hr.1] at hd
      split at h
      · rename_i hc
        injection h with h
        injection h with h1 h2
        subst h1 h2 hc
        unfold ofP
        rw [if_neg (by omega), if_pos rfl, Int.toNat_natCast, hd]
      · split at h
        · rename_i hc
          injection h with h
          injection h with h1 h2
          subst h1 h2 hc
          unfold ofP
          rw [if_neg (by omega), if_neg (by decide), if_pos rfl, Int.toNat_natCast, hd]
        · cases h
    · split at h
      · rename_i hr
        subst hr
        split at h
        · rename_i hc
          injection h with h
          injection h with h1 h2
          subst h1 h2 hc
          rfl
        · split at h
          · rename_i hc
            injection h with h
            injection h with h1 h2
            subst h1 h2 hc
            rfl
          · cases h
      · cases h
theorem parse_kind (s : List UInt8) (k n : Int) (h : parseP s = some (k, n)) : 1 ≤ k ∧ k ≤ 4 ∧ 0 ≤ n ∧ n ≤ 99999999 ∧ (2 < k → n = 0) ∧ s ≠ [] := by
  have h2 := of_parse s k n h
  have hs : s ≠ [] := fun e => by rw [e] at h; simp [parseP] at h
  have hn := ofP_num k n (by rw [h2]; exact hs)
  unfold ofP at h2
  rw [if_neg (by omega)] at h2
  refine ⟨?_, ?_, hn.1, hn.2, ?_, hs⟩
  all_goals
    split at h2
    · omega
    · split at h2
      · omega
      · split at h2
        · omega
        · split at h2
          · omega
          · exact absurd h2.symm hs

/-- What the document's answer makes of the bytes behind the first one. -/
def rnum (acc : Int) (r : List UInt8) : Int := r.foldl (fun a c => 10 * a + Int.tmod ((c.toNat : Int) - 48) 10) acc
theorem rnum_nil (acc : Int) : rnum acc [] = acc := rfl
theorem rnum_cons (acc : Int) (c : UInt8) (r : List UInt8) : rnum acc (c :: r) = rnum (10 * acc + Int.tmod ((c.toNat : Int) - 48) 10) r := by simp only [rnum, List.foldl_cons]
theorem rnum_val : ∀ (r : List UInt8) (acc : Nat), r.all isDig = true → rnum acc r = (val acc r : Nat)
  | [], _, _ => rfl
  | c :: r, acc, h => by
    rw [List.all_cons, Bool.and_eq_true] at h
    have hc := of_decide_eq_true h.1
    rw [rnum_cons, val_cons, ← rnum_val r _ h.2]
    congr 1
    rw [Int.tmod_eq_emod_of_nonneg (by omega)]
    omega
theorem rnum_append : ∀ (x : List UInt8) (c : UInt8) (acc : Int), rnum acc (x ++ [c]) = 10 * rnum acc x + Int.tmod ((c.toNat : Int) - 48) 10
  | [], c, acc => by rw [List.nil_append, rnum_cons, rnum_nil, rnum_nil]
  | u :: x, c, acc => by rw [List.cons_append, rnum_cons, rnum_cons, rnum_append x c]
theorem rnum_bound : ∀ (r : List UInt8) (acc : Int), -(10 ^ r.length) * (acc.natAbs + 1) < rnum acc r ∧ rnum acc r < 10 ^ r.length * (acc.natAbs + 1)
  | [], acc => by rw [rnum_nil]; simp; omega
  | c :: r, acc => by
    have := rnum_bound r (10 * acc + Int.tmod ((c.toNat : Int) - 48) 10)
    have hb : (10 * acc + Int.tmod ((c.toNat : Int) - 48) 10).natAbs + 1 ≤ 10 * (acc.natAbs + 1) := by
      have h1 : Int.tmod ((c.toNat : Int) - 48) 10 < 10 := Int.tmod_lt_of_pos _ (by omega)
      have h2 : -10 < Int.tmod ((c.toNat : Int) - 48) 10 := by
        have := Int.tmod_lt_of_pos (-((c.toNat : Int) - 48)) (show (0 : Int) < 10 by omega)
        rw [Int.neg_tmod] at this
        omega
      omega
    rw [rnum_cons, List.length_cons]
    have hp : (0 : Int) < 10 ^ r.length := Int.pow_pos (by omega)
    have e : (10 : Int) ^ (r.length + 1) * ((acc.natAbs : Nat) + 1 : Int) = 10 ^ r.length * (10 * ((acc.natAbs : Nat) + 1 : Int)) := by
      rw [Int.pow_succ, Int.mul_assoc]
    have hle : (10 : Int) ^ r.length * (((10 * acc + Int.tmod ((c.toNat : Int) - 48) 10).natAbs : Nat) + 1 : Int) ≤ 10 ^ r.length * (10 * ((acc.natAbs : Nat) + 1 : Int)) := Int.mul_le_mul_of_nonneg_left (by omega) (by omega)
    rw [Int.neg_mul] at *
    omega

/-- The answer's way: the first kind whose name it is. -/
theorem ref_kind (s : List UInt8) (k : Int) (m : Int) (hs : s ≠ []) (h : ofP k m = s) : parseP s = some (k, m) := by
  subst h
  exact parse_of k m hs
theorem ref_num (s : List UInt8) (k n : Int) (h : parseP s = some (k, n)) (hk : k ≤ 2) : rnum 0 ((s.drop 1).take 8) = n := by
  match s with
  | [] => simp [parseP] at h
  | c :: r =>
    have h0 := h
    rw [parse_cons] at h
    split at h
    · rename_i hr
      have e : ((c :: r).drop 1).take 8 = r := by
        rw [List.drop_one, List.tail_cons, List.take_of_length_le (by omega)]
      rw [e, show (0 : Int) = ((0 : Nat) : Int) from rfl, rnum_val r 0 hr.2]
      split at h
      · injection h with h
        injection h
      · split at h
        · injection h with h
          injection h
        · cases h
    · split at h
      · split at h
        · injection h with h
          injection h
          omega
        · split at h
          · injection h with h
            injection h
            omega
          · cases h
      · cases h
end Go.Proofs.YtdkpbphgaenlnaaGreat

/-
  The walks of name's digitsOf and Of, and of the answer's Of.
-/
namespace Go.Proofs.YtdkpbphgaenlnaaGreat
open Go.RowKit
set_option linter.unusedSimpArgs false
set_option linter.unusedVariables false

def digitsP (k : Int) : Int × Int := if k = 1 ∨ k = 2 then (8, 99999999) else if k = 3 ∨ k = 4 then (0, 0) else (0, -1)
theorem digits_any (k : Int) (w : World) : Calls Tryz.prog 99 #[.int .i64 k] w fun e w' => e = .returned (.tuple #[.int .i64 (digitsP k).1, .int .i64 (digitsP k).2]) ∧ w = w' := by
  by_cases h1 : k = 1
  · subst h1
    go_enter Tryz.func99, Tryz.ntmps99
    go_wp2_with (fail)
    go_ret2
    exact ⟨rfl, rfl⟩
  by_cases h2 : k = 2
  · subst h2
    go_enter Tryz.func99, Tryz.ntmps99
    go_wp2_with (fail)
    go_ret2
    exact ⟨rfl, rfl⟩
  by_cases h3 : k = 3
  · subst h3
    go_enter Tryz.func99, Tryz.ntmps99
    go_wp2_with (fail)
    go_ret2
    exact ⟨rfl, rfl⟩
  by_cases h4 : k = 4
  · subst h4
    go_enter Tryz.func99, Tryz.ntmps99
    go_wp2_with (fail)
    go_ret2
    exact ⟨rfl, rfl⟩
  go_enter Tryz.func99, Tryz.ntmps99
  go_wp2_with (fail)
  go_ret2
  have e : digitsP k = (0, -1) := by unfold digitsP; rw [if_neg (by omega), if_neg (by omega)]
  rw [e]
  exact ⟨rfl, rfl⟩

/-- The name's bytes when i digits have been written. -/
def nameV (c : UInt8) (n i : Nat) : Array Value := ((c :: List.replicate (8 - i) 0 ++ digs n i).map byteV).toArray
theorem nameV_size (c : UInt8) (n i : Nat) (h : i ≤ 8) : (nameV c n i).size = 9 := by
  simp [nameV, digs_length]
  omega
theorem rep_set (m : Nat) (x : UInt8) (r : List UInt8) : ∀ c : UInt8, (c :: List.replicate (m + 1) 0 ++ r).set (m + 1) x = c :: List.replicate m 0 ++ x :: r := by
  induction m with
  | zero => intro c; rfl
  | succ m ih =>
    intro c
    have := ih 0
    rw [List.replicate_succ, List.cons_append, List.set_cons_succ]
    rw [this]
    simp [List.replicate_succ]
theorem nameV_next (c : UInt8) (n i : Nat) (h : i < 8) : (nameV c n i).setIfInBounds (8 - i) (.int .u8 ((UInt8.ofNat (48 + n / 10 ^ i % 10)).toNat : Int)) = nameV c n (i + 1) := by
  obtain ⟨m, hm⟩ : ∃ m, 8 - i = m + 1 := ⟨8 - i - 1, by omega⟩
  unfold nameV
  rw [hm, show 8 - (i + 1) = m by omega, digs, ← rep_set m _ (digs n i) c, List.map_set, List.setIfInBounds_toArray]
  rfl


set_option maxRecDepth 100000 in
set_option maxHeartbeats 4000000 in
theorem of_num1 (n : Nat) (hn : n ≤ 99999999) (w : World) :
    Calls Tryz.prog 39 #[.int .i64 1, .int .i64 (n : Int)] w fun e w' => e = .returned (.string ⟨(115 :: digs n 8 : List UInt8).toArray⟩) ∧ Grows w w' := by
  have hmk : ∀ w, (Instr.makeSlice 55 (.int .i64 9) (.int .i64 9)).run Tryz.prog w = .ok (.slice (some ⟨w.heap.size, 0, none⟩) 9 9) (w.alloc (.cells #[.int .u8 0, .int .u8 0, .int .u8 0, .int .u8 0, .int .u8 0, .int .u8 0, .int .u8 0, .int .u8 0, .int .u8 0] 5)) := fun _ => by kernel_rfl
  have hw0 := Whole.made w 5 #[.int .u8 0, .int .u8 0, .int .u8 0, .int .u8 0, .int .u8 0, .int .u8 0, .int .u8 0, .int .u8 0, .int .u8 0]
  have hg0 := Grows.refl w |>.alloc (Nat.le_refl _) (.cells #[.int .u8 0, .int .u8 0, .int .u8 0, .int .u8 0, .int .u8 0, .int .u8 0, .int .u8 0, .int .u8 0, .int .u8 0] 5)
  obtain ⟨w0, he0⟩ : ∃ w0, w.alloc (.cells #[.int .u8 0, .int .u8 0, .int .u8 0, .int .u8 0, .int .u8 0, .int .u8 0, .int .u8 0, .int .u8 0, .int .u8 0] 5) = w0 := ⟨_, rfl⟩
  have hlt0 : w.heap.size < w0.heap.size := by rw [← he0]; simp
  have hmk1 := hmk w
  rw [he0] at hmk1 hw0 hg0
  have hcp : (Builtin.copy_ #[55, 9] 3 #[.slice (some ⟨w.heap.size, 0, none⟩) 9 9, .string ((⟨#[115, 104, 109, 116]⟩ : ByteArray).extract 0 1)]).run Tryz.prog w0 = .ok (goInt 1) (w0.setCell ⟨w.heap.size, 0, none⟩ (.int .u8 115)) := by
    rw [show (⟨#[115, 104, 109, 116]⟩ : ByteArray).extract 0 1 = ⟨#[115]⟩ by rfl]
    refine (run_copy_string (P := Tryz.prog) w0 55 9 3 5 w.heap.size 0 9 9 ⟨#[115]⟩ Tryz.underlying55 (fun _ => by kernel_rfl) (by decide) (fun j hj => ?_) (fun j hj => ?_)).trans rfl
    · have hj0 : j = 0 := Nat.lt_one_iff.1 hj
      subst hj0
      have := hw0.cell 0
      simp only [List.getElem?_toArray, List.getElem?_cons_zero] at this
      rw [Nat.zero_add, this]
      rfl
    · exact hw0.free _
  have hw1 := hw0.put 0 (.int .u8 115)
  have hg1 : Grows w (w0.setCell ⟨w.heap.size, 0, none⟩ (.int .u8 115)) := Below.setCell (p := ⟨w.heap.size, 0, none⟩) hg0 (Nat.le_refl _) _
  obtain ⟨w1, he1⟩ : ∃ w1, w0.setCell ⟨w.heap.size, 0, none⟩ (.int .u8 115) = w1 := ⟨_, rfl⟩
  rw [he1] at hcp hw1 hg1
  have hw2 : Whole w1 w.heap.size 5 (nameV 115 n 0) := hw1
  have HW := Lib.hid hw2
  have HG := Lib.hid hg1
  have hnn : ¬ (99999999 : Int) < (n : Int) := by omega
  have hn0 : ¬ (n : Int) < 0 := by omega
  clear hmk hw0 hg0 hw1 hg1 hw2 hlt0
  go_enter Tryz.func39, Tryz.ntmps39
  go_wp2_with (first | (go_at_call 99; refine (digits_any 1 _).mono ?_; rintro e w' ⟨rfl, rfl⟩; rw [show digitsP 1 = (8, 99999999) from rfl]) | fail)
  go_loopw [1, 31] (fun a i wr => ∃ (j : Nat), j ≤ 8 ∧ i = .int .i64 (j : Int) ∧ a = .int .i64 ((n / 10 ^ j : Nat) : Int) ∧ Hid (Whole wr w.heap.size 5 (nameV 115 n j)) ∧ Hid (Grows w wr)) (fun _ i _ => 8 - (intOf i).toNat)
  case atStart => exact ⟨0, by omega, rfl, by simp, HW, HG⟩
  case round =>
    obtain ⟨j, hj, rfl, rfl, HR, HB⟩ := hrel
    by_cases hlt : j < 8
    · have hlt' : (j : Int) < 8 := by omega
      obtain ⟨q, hq⟩ : ∃ q : Nat, 8 - j = q := ⟨_, rfl⟩
      obtain ⟨X, hX⟩ : ∃ X : Nat, n / 10 ^ j = X := ⟨_, rfl⟩
      have hX2 : n / 10 ^ (j + 1) = X / 10 := by rw [Nat.pow_succ, ← Nat.div_div_eq_div_mul, hX]
      have hXl : X ≤ 99999999 := by rw [← hX]; exact Nat.le_trans (Nat.div_le_self _ _) hn
      have hq1 : IntKind.i64.wrap (8 - (j : Int)) = (q : Int) := by rw [IntWalk.i64_in _ ⟨by omega, by omega⟩]; omega
      have hq2 : wrap64 (8 - (j : Int)) = (q : Int) := by rw [← IntWalk.i64_left]; exact hq1
      have hq9 : q < 9 := by omega
      have hcell := HR.out.cell q
      have hset := nameV_next 115 n j hlt
      rw [hX, hq] at hset
      obtain ⟨old, hold⟩ : ∃ old, (nameV 115 n j)[q]? = some old := ⟨_, Array.getElem?_eq_getElem (by rw [nameV_size 115 n j hj]; exact hq9)⟩
      rw [hold] at hcell
      have hfree := HR.out.free q
      have hput := HR.out.put q (.int .u8 ((UInt8.ofNat (48 + X % 10)).toNat : Int))
      rw [hset] at hput
      have HP := Lib.hid hput
      have hd : ((UInt8.ofNat (48 + X % 10)).toNat : Int) = 48 + (X : Int) % 10 := by
        rw [dig_nat _ (Nat.mod_lt _ (by omega))]
        omega
      rw [hd] at HP
      have hm1 : IntKind.i64.wrap ((X : Int).tmod 10) = (X : Int) % 10 := by rw [Int.tmod_eq_emod_of_nonneg (by omega), IntWalk.i64_in _ ⟨by omega, by omega⟩]
      have HX := Lib.hid hX
      have HX2 := Lib.hid hX2
      have HQ := Lib.hid hq
      rw [hX]
      clear hset hput hd hold hX hX2 hq
      go_wp2_with (fail)
      refine ⟨⟨j + 1, by omega, rfl, ?_, Lib.hid HP.out, Lib.hid (Below.setCell (p := ⟨w.heap.size, q, none⟩) HB.out (Nat.le_refl _) _)⟩, by simp [intOf]; omega⟩
      rw [HX2.out]
      rfl
    · obtain rfl : j = 8 := by omega
      have hs := run_string (HR.out.sl (115 :: digs n 8) (by unfold nameV; rfl) (n := 9) (by rw [List.length_cons, digs_length]))
      have HS := Lib.hid hs
      go_wp2_with (fail)
      go_ret
      exact ⟨rfl, HB.out⟩

set_option maxRecDepth 100000 in
set_option maxHeartbeats 4000000 in
theorem of_num2 (n : Nat) (hn : n ≤ 99999999) (w : World) :
    Calls Tryz.prog 39 #[.int .i64 2, .int .i64 (n : Int)] w fun e w' => e = .returned (.string ⟨(104 :: digs n 8 : List UInt8).toArray⟩) ∧ Grows w w' := by
  have hmk : ∀ w, (Instr.makeSlice 55 (.int .i64 9) (.int .i64 9)).run Tryz.prog w = .ok (.slice (some ⟨w.heap.size, 0, none⟩) 9 9) (w.alloc (.cells #[.int .u8 0, .int .u8 0, .int .u8 0, .int .u8 0, .int .u8 0, .int .u8 0, .int .u8 0, .int .u8 0, .int .u8 0] 5)) := fun _ => by kernel_rfl
  have hw0 := Whole.made w 5 #[.int .u8 0, .int .u8 0, .int .u8 0, .int .u8 0, .int .u8 0, .int .u8 0, .int .u8 0, .int .u8 0, .int .u8 0]
  have hg0 := Grows.refl w |>.alloc (Nat.le_refl _) (.cells #[.int .u8 0, .int .u8 0, .int .u8 0, .int .u8 0, .int .u8 0, .int .u8 0, .int .u8 0, .int .u8 0, .int .u8 0] 5)
  obtain ⟨w0, he0⟩ : ∃ w0, w.alloc (.cells #[.int .u8 0, .int .u8 0, .int .u8 0, .int .u8 0, .int .u8 0, .int .u8 0, .int .u8 0, .int .u8 0, .int .u8 0] 5) = w0 := ⟨_, rfl⟩
  have hlt0 : w.heap.size < w0.heap.size := by rw [← he0]; simp
  have hmk1 := hmk w
  rw [he0] at hmk1 hw0 hg0
  have hcp : (Builtin.copy_ #[55, 9] 3 #[.slice (some ⟨w.heap.size, 0, none⟩) 9 9, .string ((⟨#[115, 104, 109, 116]⟩ : ByteArray).extract 1 2)]).run Tryz.prog w0 = .ok (goInt 1) (w0.setCell ⟨w.heap.size, 0, none⟩ (.int .u8 104)) := by
    rw [show (⟨#[115, 104, 109, 116]⟩ : ByteArray).extract 1 2 = ⟨#[104]⟩ by rfl]
    refine (run_copy_string (P := Tryz.prog) w0 55 9 3 5 w.heap.size 0 9 9 ⟨#[104]⟩ Tryz.underlying55 (fun _ => by kernel_rfl) (by decide) (fun j hj => ?_) (fun j hj => ?_)).trans rfl
    · have hj0 : j = 0 := Nat.lt_one_iff.1 hj
      subst hj0
      have := hw0.cell 0
      simp only [List.getElem?_toArray, List.getElem?_cons_zero] at this
      rw [Nat.zero_add, this]
      rfl
    · exact hw0.free _
  have hw1 := hw0.put 0 (.int .u8 104)
  have hg1 : Grows w (w0.setCell ⟨w.heap.size, 0, none⟩ (.int .u8 104)) := Below.setCell (p := ⟨w.heap.size, 0, none⟩) hg0 (Nat.le_refl _) _
  obtain ⟨w1, he1⟩ : ∃ w1, w0.setCell ⟨w.heap.size, 0, none⟩ (.int .u8 104) = w1 := ⟨_, rfl⟩
  rw [he1] at hcp hw1 hg1
  have hw2 : Whole w1 w.heap.size 5 (nameV 104 n 0) := hw1
  have HW := Lib.hid hw2
  have HG := Lib.hid hg1
  have hnn : ¬ (99999999 : Int) < (n : Int) := by omega
  have hn0 : ¬ (n : Int) < 0 := by omega
  clear hmk hw0 hg0 hw1 hg1 hw2 hlt0
  go_enter Tryz.func39, Tryz.ntmps39
  go_wp2_with (first | (go_at_call 99; refine (digits_any 2 _).mono ?_; rintro e w' ⟨rfl, rfl⟩; rw [show digitsP 2 = (8, 99999999) from rfl]) | fail)
  go_loopw [1, 31] (fun a i wr => ∃ (j : Nat), j ≤ 8 ∧ i = .int .i64 (j : Int) ∧ a = .int .i64 ((n / 10 ^ j : Nat) : Int) ∧ Hid (Whole wr w.heap.size 5 (nameV 104 n j)) ∧ Hid (Grows w wr)) (fun _ i _ => 8 - (intOf i).toNat)
  case atStart => exact ⟨0, by omega, rfl, by simp, HW, HG⟩
  case round =>
    obtain ⟨j, hj, rfl, rfl, HR, HB⟩ := hrel
    by_cases hlt : j < 8
    · have hlt' : (j : Int) < 8 := by omega
      obtain ⟨q, hq⟩ : ∃ q : Nat, 8 - j = q := ⟨_, rfl⟩
      obtain ⟨X, hX⟩ : ∃ X : Nat, n / 10 ^ j = X := ⟨_, rfl⟩
      have hX2 : n / 10 ^ (j + 1) = X / 10 := by rw [Nat.pow_succ, ← Nat.div_div_eq_div_mul, hX]
      have hXl : X ≤ 99999999 := by rw [← hX]; exact Nat.le_trans (Nat.div_le_self _ _) hn
      have hq1 : IntKind.i64.wrap (8 - (j : Int)) = (q : Int) := by rw [IntWalk.i64_in _ ⟨by omega, by omega⟩]; omega
      have hq2 : wrap64 (8 - (j : Int)) = (q : Int) := by rw [← IntWalk.i64_left]; exact hq1
      have hq9 : q < 9 := by omega
      have hcell := HR.out.cell q
      have hset := nameV_next 104 n j hlt
      rw [hX, hq] at hset
      obtain ⟨old, hold⟩ : ∃ old, (nameV 104 n j)[q]? = some old := ⟨_, Array.getElem?_eq_getElem (by rw [nameV_size 104 n j hj]; exact hq9)⟩
      rw [hold] at hcell
      have hfree := HR.out.free q
      have hput := HR.out.put q (.int .u8 ((UInt8.ofNat (48 + X % 10)).toNat : Int))
      rw [hset] at hput
      have HP := Lib.hid hput
      have hd : ((UInt8.ofNat (48 + X % 10)).toNat : Int) = 48 + (X : Int) % 10 := by
        rw [dig_nat _ (Nat.mod_lt _ (by omega))]
        omega
      rw [hd] at HP
      have hm1 : IntKind.i64.wrap ((X : Int).tmod 10) = (X : Int) % 10 := by rw [Int.tmod_eq_emod_of_nonneg (by omega), IntWalk.i64_in _ ⟨by omega, by omega⟩]
      have HX := Lib.hid hX
      have HX2 := Lib.hid hX2
      have HQ := Lib.hid hq
      rw [hX]
      clear hset hput hd hold hX hX2 hq
      go_wp2_with (fail)
      refine ⟨⟨j + 1, by omega, rfl, ?_, Lib.hid HP.out, Lib.hid (Below.setCell (p := ⟨w.heap.size, q, none⟩) HB.out (Nat.le_refl _) _)⟩, by simp [intOf]; omega⟩
      rw [HX2.out]
      rfl
    · obtain rfl : j = 8 := by omega
      have hs := run_string (HR.out.sl (104 :: digs n 8) (by unfold nameV; rfl) (n := 9) (by rw [List.length_cons, digs_length]))
      have HS := Lib.hid hs
      go_wp2_with (fail)
      go_ret
      exact ⟨rfl, HB.out⟩

set_option maxRecDepth 100000 in
set_option maxHeartbeats 4000000 in
theorem of_one3 (w : World) :
    Calls Tryz.prog 39 #[.int .i64 3, .int .i64 0] w fun e w' => e = .returned (.string ⟨([109] : List UInt8).toArray⟩) ∧ Grows w w' := by
  have hmk : ∀ w, (Instr.makeSlice 55 (.int .i64 1) (.int .i64 1)).run Tryz.prog w = .ok (.slice (some ⟨w.heap.size, 0, none⟩) 1 1) (w.alloc (.cells #[.int .u8 0] 5)) := fun _ => by kernel_rfl
  have hw0 := Whole.made w 5 #[.int .u8 0]
  have hg0 := Grows.refl w |>.alloc (Nat.le_refl _) (.cells #[.int .u8 0] 5)
  obtain ⟨w0, he0⟩ : ∃ w0, w.alloc (.cells #[.int .u8 0] 5) = w0 := ⟨_, rfl⟩
  have hmk1 := hmk w
  rw [he0] at hmk1 hw0 hg0
  have hcp : (Builtin.copy_ #[55, 9] 3 #[.slice (some ⟨w.heap.size, 0, none⟩) 1 1, .string ((⟨#[115, 104, 109, 116]⟩ : ByteArray).extract 2 3)]).run Tryz.prog w0 = .ok (goInt 1) (w0.setCell ⟨w.heap.size, 0, none⟩ (.int .u8 109)) := by
    rw [show (⟨#[115, 104, 109, 116]⟩ : ByteArray).extract 2 3 = ⟨#[109]⟩ by rfl]
    refine (run_copy_string (P := Tryz.prog) w0 55 9 3 5 w.heap.size 0 1 1 ⟨#[109]⟩ Tryz.underlying55 (fun _ => by kernel_rfl) (by decide) (fun j hj => ?_) (fun j hj => ?_)).trans rfl
    · have hj0 : j = 0 := Nat.lt_one_iff.1 hj
      subst hj0
      have := hw0.cell 0
      simp only [List.getElem?_toArray, List.getElem?_cons_zero] at this
      rw [Nat.zero_add, this]
      rfl
    · exact hw0.free _
  have hw1 := hw0.put 0 (.int .u8 109)
  have hg1 : Grows w (w0.setCell ⟨w.heap.size, 0, none⟩ (.int .u8 109)) := Below.setCell (p := ⟨w.heap.size, 0, none⟩) hg0 (Nat.le_refl _) _
  obtain ⟨w1, he1⟩ : ∃ w1, w0.setCell ⟨w.heap.size, 0, none⟩ (.int .u8 109) = w1 := ⟨_, rfl⟩
  rw [he1] at hcp hw1 hg1
  have hs := run_string (hw1.sl [109] rfl (n := 1) rfl)
  have HG := Lib.hid hg1
  clear hmk hw0 hg0 hw1 hg1
  go_enter Tryz.func39, Tryz.ntmps39
  go_wp2_with (first | (go_at_call 99; refine (digits_any 3 _).mono ?_; rintro e w' ⟨rfl, rfl⟩; rw [show digitsP 3 = (0, 0) from rfl]) | fail)
  go_loopw [31] (fun i wr => i = .int .i64 0 ∧ wr = w1) (fun _ _ => 0)
  case atStart => exact ⟨rfl, rfl⟩
  case round =>
    obtain ⟨rfl, rfl⟩ := hrel
    go_wp2_with (fail)
    go_ret
    exact ⟨rfl, HG.out⟩

set_option maxRecDepth 100000 in
set_option maxHeartbeats 4000000 in
theorem of_one4 (w : World) :
    Calls Tryz.prog 39 #[.int .i64 4, .int .i64 0] w fun e w' => e = .returned (.string ⟨([116] : List UInt8).toArray⟩) ∧ Grows w w' := by
  have hmk : ∀ w, (Instr.makeSlice 55 (.int .i64 1) (.int .i64 1)).run Tryz.prog w = .ok (.slice (some ⟨w.heap.size, 0, none⟩) 1 1) (w.alloc (.cells #[.int .u8 0] 5)) := fun _ => by kernel_rfl
  have hw0 := Whole.made w 5 #[.int .u8 0]
  have hg0 := Grows.refl w |>.alloc (Nat.le_refl _) (.cells #[.int .u8 0] 5)
  obtain ⟨w0, he0⟩ : ∃ w0, w.alloc (.cells #[.int .u8 0] 5) = w0 := ⟨_, rfl⟩
  have hmk1 := hmk w
  rw [he0] at hmk1 hw0 hg0
  have hcp : (Builtin.copy_ #[55, 9] 3 #[.slice (some ⟨w.heap.size, 0, none⟩) 1 1, .string ((⟨#[115, 104, 109, 116]⟩ : ByteArray).extract 3 4)]).run Tryz.prog w0 = .ok (goInt 1) (w0.setCell ⟨w.heap.size, 0, none⟩ (.int .u8 116)) := by
    rw [show (⟨#[115, 104, 109, 116]⟩ : ByteArray).extract 3 4 = ⟨#[116]⟩ by rfl]
    refine (run_copy_string (P := Tryz.prog) w0 55 9 3 5 w.heap.size 0 1 1 ⟨#[116]⟩ Tryz.underlying55 (fun _ => by kernel_rfl) (by decide) (fun j hj => ?_) (fun j hj => ?_)).trans rfl
    · have hj0 : j = 0 := Nat.lt_one_iff.1 hj
      subst hj0
      have := hw0.cell 0
      simp only [List.getElem?_toArray, List.getElem?_cons_zero] at this
      rw [Nat.zero_add, this]
      rfl
    · exact hw0.free _
  have hw1 := hw0.put 0 (.int .u8 116)
  have hg1 : Grows w (w0.setCell ⟨w.heap.size, 0, none⟩ (.int .u8 116)) := Below.setCell (p := ⟨w.heap.size, 0, none⟩) hg0 (Nat.le_refl _) _
  obtain ⟨w1, he1⟩ : ∃ w1, w0.setCell ⟨w.heap.size, 0, none⟩ (.int .u8 116) = w1 := ⟨_, rfl⟩
  rw [he1] at hcp hw1 hg1
  have hs := run_string (hw1.sl [116] rfl (n := 1) rfl)
  have HG := Lib.hid hg1
  clear hmk hw0 hg0 hw1 hg1
  go_enter Tryz.func39, Tryz.ntmps39
  go_wp2_with (first | (go_at_call 99; refine (digits_any 4 _).mono ?_; rintro e w' ⟨rfl, rfl⟩; rw [show digitsP 4 = (0, 0) from rfl]) | fail)
  go_loopw [31] (fun i wr => i = .int .i64 0 ∧ wr = w1) (fun _ _ => 0)
  case atStart => exact ⟨rfl, rfl⟩
  case round =>
    obtain ⟨rfl, rfl⟩ := hrel
    go_wp2_with (fail)
    go_ret
    exact ⟨rfl, HG.out⟩

theorem nameOf_any (k n : Int) (w : World) :
    Calls Tryz.prog 39 #[.int .i64 k, .int .i64 n] w fun e w' => e = .returned (.string ⟨(ofP k n).toArray⟩) ∧ Grows w w' := by
  have key : ∀ m : Int, (digitsP k).2 = m → (n < 0 ∨ m < n) → Calls Tryz.prog 39 #[.int .i64 k, .int .i64 n] w fun e w' => e = .returned (.string ⟨([] : List UInt8).toArray⟩) ∧ Grows w w' := fun m hm hn => by
    by_cases h0 : n < 0
    · go_enter Tryz.func39, Tryz.ntmps39
      go_wp2_with (first | (go_at_call 99; refine (digits_any k _).mono ?_; rintro e w' ⟨rfl, rfl⟩) | fail)
      go_ret
      exact ⟨rfl, Grows.refl _⟩
    · have h1 : m < n := by omega
      go_enter Tryz.func39, Tryz.ntmps39
      go_wp2_with (first | (go_at_call 99; refine (digits_any k _).mono ?_; rintro e w' ⟨rfl, rfl⟩; rw [hm]) | fail)
      go_ret
      exact ⟨rfl, Grows.refl _⟩
  by_cases hn : n < 0 ∨ n > 99999999
  · have e : ofP k n = [] := by unfold ofP; rw [if_pos hn]
    rw [e]
    refine key _ rfl ?_
    rcases hn with h | h
    · exact .inl h
    · right
      unfold digitsP
      repeat' split
      all_goals omega
  · obtain ⟨m, rfl⟩ : ∃ m : Nat, n = (m : Int) := ⟨n.toNat, by omega⟩
    by_cases h1 : k = 1
    · subst h1
      have e : ofP 1 (m : Int) = 115 :: digs m 8 := by unfold ofP; rw [if_neg hn, if_pos rfl, Int.toNat_natCast]
      rw [e]
      exact of_num1 m (by omega) w
    · by_cases h2 : k = 2
      · subst h2
        have e : ofP 2 (m : Int) = 104 :: digs m 8 := by unfold ofP; rw [if_neg hn, if_neg (by decide), if_pos rfl, Int.toNat_natCast]
        rw [e]
        exact of_num2 m (by omega) w
      · by_cases h3 : k = 3 ∧ (m : Int) = 0
        · obtain ⟨rfl, hm⟩ := h3
          rw [hm]
          exact of_one3 w
        · by_cases h4 : k = 4 ∧ (m : Int) = 0
          · obtain ⟨rfl, hm⟩ := h4
            rw [hm]
            exact of_one4 w
          · have e : ofP k (m : Int) = [] := by unfold ofP; rw [if_neg hn, if_neg h1, if_neg h2, if_neg h3, if_neg h4]
            rw [e]
            refine key _ rfl (.inr ?_)
            unfold digitsP
            rw [if_neg (by omega)]
            split <;> simp only <;> omega
end Go.Proofs.YtdkpbphgaenlnaaGreat
