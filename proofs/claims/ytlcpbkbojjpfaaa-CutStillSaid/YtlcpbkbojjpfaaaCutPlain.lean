/-
  What is written, in pieces: plain lists of bytes. No program in sight.
-/
import Derived.Test.YtlcpbkbojjpfaaaWords
namespace Go.Proofs.Ytlcpbkbojjpfaaa
set_option linter.unusedVariables false

/-- Piece i of bytes, each of P. -/
def pieceB (P : Nat) (T : List UInt8) (i : Nat) : List UInt8 := (T.drop (i * P)).take P
/-- The first j pieces. -/
def piecesN (P : Nat) (T : List UInt8) (j : Nat) : List (List UInt8) := (List.range j).map (pieceB P T)
/-- All full pieces, and what is left. -/
def piecesB (P : Nat) (T : List UInt8) : List (List UInt8) := piecesN P T (T.length / P)
def restB (P : Nat) (T : List UInt8) : List UInt8 := T.drop (T.length / P * P)

section
variable {P i j : Nat} {T a b : List UInt8}
theorem pieceB_len (h : (i + 1) * P ≤ T.length) : (pieceB P T i).length = P := by
  unfold pieceB
  rw [List.length_take, List.length_drop]
  rw [Nat.add_mul] at h
  omega
theorem piecesN_snoc : piecesN P T (j + 1) = piecesN P T j ++ [pieceB P T j] := by
  unfold piecesN
  rw [List.range_succ, List.map_append]
  rfl
theorem piecesN_len : (piecesN P T j).length = j := by simp [piecesN]
theorem piecesN_flat : ∀ j, (piecesN P T j).flatten = T.take (j * P)
  | 0 => by simp [piecesN]
  | j + 1 => by
    rw [piecesN_snoc, List.flatten_append, piecesN_flat j, List.flatten_cons, List.flatten_nil, List.append_nil, Nat.add_mul, Nat.one_mul, pieceB, List.take_add]
theorem pieces_all : (piecesB P T).flatten ++ restB P T = T := by
  unfold piecesB restB
  rw [piecesN_flat, List.take_append_drop]
theorem rest_len (hP : 0 < P) : (restB P T).length = T.length % P := by
  unfold restB
  rw [List.length_drop]
  have := Nat.div_add_mod T.length P
  rw [Nat.mul_comm] at this
  omega
theorem rest_short (hP : 0 < P) : (restB P T).length < P := by rw [rest_len hP]; exact Nat.mod_lt _ hP
theorem pieces_len : (piecesB P T).length = T.length / P := piecesN_len
theorem pieces_full (hP : 0 < P) : ∀ l ∈ piecesB P T, l.length = P := by
  intro l hl
  unfold piecesB piecesN at hl
  obtain ⟨i, hi, rfl⟩ := List.mem_map.1 hl
  refine pieceB_len ?_
  have h1 := List.mem_range.1 hi
  have h2 := Nat.div_mul_le_self T.length P
  exact Nat.le_trans (Nat.mul_le_mul_right P h1) h2
/-- How many pieces there are: told by what is left. -/
theorem pieces_many (hP : 0 < P) (h1 : j * P ≤ T.length) (h2 : T.length < (j + 1) * P) : T.length / P = j :=
  Nat.div_eq_of_lt_le h1 h2

theorem drop_parted (h : i ≤ a.length) : (a ++ b).drop i = a.drop i ++ b := by
  rw [List.drop_append, show i - a.length = 0 by omega, List.drop_zero]
theorem rest_div (hP : 0 < P) : (a ++ b).length / P = a.length / P + (restB P a ++ b).length / P := by
  have h1 := Nat.div_mul_le_self a.length P
  have h2 := rest_len (P := P) (T := a) hP
  have h3 := Nat.div_add_mod a.length P
  rw [List.length_append, List.length_append, h2]
  conv => lhs; rw [← h3]
  rw [Nat.add_assoc, Nat.mul_add_div hP]
theorem rest_parted (hP : 0 < P) : restB P (a ++ b) = restB P (restB P a ++ b) := by
  have h1 := Nat.div_mul_le_self a.length P
  unfold restB
  rw [rest_div hP, Nat.add_mul, ← List.drop_drop, drop_parted h1]
  rfl
theorem pieces_parted (hP : 0 < P) : piecesB P (a ++ b) = piecesB P a ++ piecesB P (restB P a ++ b) := by
  have h1 := Nat.div_mul_le_self a.length P
  unfold piecesB
  rw [rest_div hP]
  have hr : restB P a = a.drop (a.length / P * P) := rfl
  generalize (restB P a ++ b).length / P = r at *
  generalize a.length / P = q at *
  refine List.ext_getElem? fun k => ?_
  unfold piecesN
  by_cases hk : k < q
  · rw [List.getElem?_append_left (by simpa using hk), List.getElem?_map, List.getElem?_map, List.getElem?_range (by omega), List.getElem?_range hk]
    simp only [Option.map_some, Option.some.injEq]
    unfold pieceB
    have h2 : (k + 1) * P ≤ a.length := Nat.le_trans (Nat.mul_le_mul_right P hk) h1
    rw [Nat.add_mul] at h2
    rw [drop_parted (by omega), List.take_append_of_le_length (by rw [List.length_drop]; omega)]
  · rw [List.getElem?_append_right (by simpa using hk)]
    simp only [List.getElem?_map, List.length_map, List.length_range]
    by_cases hk2 : k - q < r
    · rw [List.getElem?_range (by omega), List.getElem?_range hk2]
      simp only [Option.map_some, Option.some.injEq]
      unfold pieceB
      rw [hr, ← drop_parted h1, List.drop_drop, ← Nat.add_mul, show q + (k - q) = k by omega]
    · rw [List.getElem?_eq_none (by simp only [List.length_range]; omega), List.getElem?_eq_none (by simp only [List.length_range]; omega)]
      rfl
theorem cut_none (h : T.length < P) : piecesB P T = [] ∧ restB P T = T := by
  unfold piecesB restB
  rw [Nat.div_eq_of_lt h, Nat.zero_mul]
  exact ⟨rfl, rfl⟩
end
end Go.Proofs.Ytlcpbkbojjpfaaa
