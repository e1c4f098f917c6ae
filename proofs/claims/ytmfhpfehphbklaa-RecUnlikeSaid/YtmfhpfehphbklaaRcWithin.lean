/-
  The walks of package rec's questions: within, Key, rightId, withoutPieces, rightTomb, rightInline, rightPiece.
-/
import Derived.Test.YtmfhpfehphbklaaSteps
import Derived.LoopTactic
import Derived.IntWalk
import Derived.MapKept
import Derived.Lib.Hide
namespace Go.Proofs.Ytmfhpfehphbklaa
set_option linter.unusedSimpArgs false
open Go.RowKit

theorem str_data (s : ByteArray) : s.data.size = s.size := rfl
theorem str_none (s : ByteArray) : s = ByteArray.empty ↔ s.size < 1 := by
  constructor
  · rintro rfl; exact Nat.zero_lt_one
  · intro h
    apply ByteArray.ext
    exact Array.eq_empty_of_size_eq_zero (by rw [str_data]; omega)
theorem str_list (s : ByteArray) : s.toList = [] ↔ s.size < 1 := by
  rw [ByteArray.toList_eq, Array.toList_eq_nil_iff, ← Array.size_eq_zero_iff, str_data]
  omega

theorem within_any (a lo hi : Int) (w : World) :
    Calls Try.prog 45 #[.int .i64 a, .int .i64 lo, .int .i64 hi] w fun e w' => e = .returned (.bool (decide (lo ≤ a ∧ a ≤ hi))) ∧ Below w.heap.size w w' := by
  go_enter Try.func45, Try.ntmps45
  go_wp2
  all_goals
    go_ret
    refine ⟨ret_bool (by rw [Bool.eq_iff_iff]; simp [str_list, -Nat.lt_one_iff] at *; omega), ?_⟩
    first | exact Below.refl _ _ | exact grows_alloc _ _ | exact Grows.trans (grows_alloc _ _) (grows_alloc _ _)

theorem within64_any (a lo hi : Int) (w : World) :
    Calls Try.prog 104 #[.int .i64 a, .int .i64 lo, .int .i64 hi] w fun e w' => e = .returned (.bool (decide (lo ≤ a ∧ a ≤ hi))) ∧ Below w.heap.size w w' := by
  go_enter Try.func104, Try.ntmps104
  go_wp2
  all_goals
    go_ret
    refine ⟨ret_bool (by rw [Bool.eq_iff_iff]; simp [str_list, -Nat.lt_one_iff] at *; omega), ?_⟩
    first | exact Below.refl _ _ | exact grows_alloc _ _ | exact Grows.trans (grows_alloc _ _) (grows_alloc _ _)

theorem key_any (s : ByteArray) (w : World) :
    Calls Try.prog 21 #[.string s] w fun e w' => e = .returned (.bool (decide (1 ≤ s.size ∧ s.size ≤ 64))) ∧ Below w.heap.size w w' := by
  go_enter Try.func21, Try.ntmps21
  go_wp2
  all_goals
    go_ret
    refine ⟨ret_bool (by rw [Bool.eq_iff_iff]; simp [str_list, -Nat.lt_one_iff] at *; omega), ?_⟩
    first | exact Below.refl _ _ | exact grows_alloc _ _ | exact Grows.trans (grows_alloc _ _) (grows_alloc _ _)

theorem refKey_any (s : ByteArray) (w : World) :
    Calls Try.prog 22 #[.string s] w fun e w' => e = .returned (.bool (decide (1 ≤ s.size ∧ s.size ≤ 64))) ∧ Below w.heap.size w w' := by
  go_enter Try.func22, Try.ntmps22
  go_wp2
  all_goals
    go_ret
    refine ⟨ret_bool (by rw [Bool.eq_iff_iff]; simp [str_list, -Nat.lt_one_iff] at *; omega), ?_⟩
    first | exact Below.refl _ _ | exact grows_alloc _ _ | exact Grows.trans (grows_alloc _ _) (grows_alloc _ _)

theorem rightTomb_any (k : Int) (s : ByteArray) (id no size : Int) (LA : Option Addr) (ln lc : Nat) (BA : Option Addr) (bn bc : Nat) (w : World) :
    Calls Try.prog 77 #[.agg #[.int .i64 k, .string s, .int .i64 id, .int .i64 no, .int .i64 size, .slice LA ln lc, .slice BA bn bc]] w fun e w' => e = .returned (.bool (decide ((id = 0 ∧ no = 0 ∧ size = 0 ∧ ln = 0) ∧ (1 ≤ s.size ∧ s.size ≤ 64) ∧ bn = 0))) ∧ Below w.heap.size w w' := by
  go_enter Try.func77, Try.ntmps77
  go_wp2
  all_goals
    go_ret
    refine ⟨ret_bool (by rw [Bool.eq_iff_iff]; simp [str_list, -Nat.lt_one_iff] at *; omega), ?_⟩
    first | exact Below.refl _ _ | exact grows_alloc _ _ | exact Grows.trans (grows_alloc _ _) (grows_alloc _ _)

theorem rightInline_any (k : Int) (s : ByteArray) (id no size : Int) (LA : Option Addr) (ln lc : Nat) (BA : Option Addr) (bn bc : Nat) (w : World) :
    Calls Try.prog 74 #[.agg #[.int .i64 k, .string s, .int .i64 id, .int .i64 no, .int .i64 size, .slice LA ln lc, .slice BA bn bc]] w fun e w' => e = .returned (.bool (decide ((id = 0 ∧ no = 0 ∧ size = 0 ∧ ln = 0) ∧ (1 ≤ s.size ∧ s.size ≤ 64) ∧ bn ≤ 4096))) ∧ Below w.heap.size w w' := by
  go_enter Try.func74, Try.ntmps74
  go_wp2
  all_goals
    go_ret
    refine ⟨ret_bool (by rw [Bool.eq_iff_iff]; simp [str_list, -Nat.lt_one_iff] at *; omega), ?_⟩
    first | exact Below.refl _ _ | exact grows_alloc _ _ | exact Grows.trans (grows_alloc _ _) (grows_alloc _ _)

theorem rightPiece_any (k : Int) (s : ByteArray) (id no size : Int) (LA : Option Addr) (ln lc : Nat) (BA : Option Addr) (bn bc : Nat) (w : World) :
    Calls Try.prog 68 #[.agg #[.int .i64 k, .string s, .int .i64 id, .int .i64 no, .int .i64 size, .slice LA ln lc, .slice BA bn bc]] w fun e w' => e = .returned (.bool (decide (s.size < 1 ∧ size = 0 ∧ ln = 0 ∧ (0 ≤ id ∧ id ≤ 1099511627776) ∧ (0 ≤ no ∧ no ≤ 511) ∧ 1 ≤ bn ∧ bn ≤ 4096))) ∧ Below w.heap.size w w' := by
  go_enter Try.func68, Try.ntmps68
  go_wp2
  all_goals
    go_ret
    refine ⟨ret_bool (by rw [Bool.eq_iff_iff]; simp [str_list, -Nat.lt_one_iff] at *; omega), ?_⟩
    first | exact Below.refl _ _ | exact grows_alloc _ _ | exact Grows.trans (grows_alloc _ _) (grows_alloc _ _)

end Go.Proofs.Ytmfhpfehphbklaa
