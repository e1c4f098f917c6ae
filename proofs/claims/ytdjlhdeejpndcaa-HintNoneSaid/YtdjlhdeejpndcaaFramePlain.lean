/-
  Frames as lists of bytes: what a body's frame is, and what of any bytes is got. No program in sight.
-/
import Derived.Test.YtdjlhdeejpndcaaPlain
namespace Go.Proofs.Ytdjlhdeejpndcaa

/-- B1. -/
def sizeN (n : Int) : Int := if 1 ≤ n ∧ n ≤ 8192 then n + 8 else 0
/-- What stands ahead of a body of n bytes. -/
def headB (n : Nat) : List UInt8 := [UInt8.ofNat (n / 256), UInt8.ofNat n, UInt8.ofNat (255 - n / 256 % 256), UInt8.ofNat (255 - n % 256)]
/-- A number of four bytes, the lowest first. -/
def lowB (s : Nat) : List UInt8 := [UInt8.ofNat s, UInt8.ofNat (s / 256), UInt8.ofNat (s / 65536), UInt8.ofNat (s / 16777216)]
/-- What stands behind these bytes. -/
def tailB (bs : List UInt8) : List UInt8 := lowB (onN tabN 0 bs)
/-- The frame of a body, if it is one. -/
def frameB (b : List UInt8) : List UInt8 := headB b.length ++ b ++ tailB (headB b.length ++ b)
def putB (b : List UInt8) : List UInt8 := if 1 ≤ b.length ∧ b.length ≤ 8192 then frameB b else []

theorem headB_length (n : Nat) : (headB n).length = 4 := rfl
theorem tailB_length (b : List UInt8) : (tailB b).length = 4 := rfl
theorem frameB_length (b : List UInt8) : (frameB b).length = b.length + 8 := by
  unfold frameB
  rw [List.length_append, List.length_append, headB_length, tailB_length]
  omega
theorem putB_length (b : List UInt8) : ((putB b).length : Int) = sizeN b.length := by
  unfold putB sizeN
  by_cases h : 1 ≤ b.length ∧ b.length ≤ 8192
  · rw [if_pos h, if_pos (by omega), frameB_length]; omega
  · rw [if_neg h, if_neg (by omega)]; rfl

/-- The length that the first two bytes tell. -/
def toldN (b : List UInt8) : Nat := 256 * (b.getD 0 0).toNat + (b.getD 1 0).toNat
/-- B2: the body, how long its frame is, what is wrong. -/
def firstB (b : List UInt8) : List UInt8 × Nat × Nat :=
  if b.length < 4 then ([], 0, 21)
  else if ¬ (1 ≤ toldN b ∧ toldN b ≤ 8192) ∨ b.take 4 ≠ headB (toldN b) then ([], 0, 22)
  else if b.length < toldN b + 8 then ([], 0, 21)
  else if (b.drop (toldN b + 4)).take 4 ≠ tailB (b.take (toldN b + 4)) then ([], toldN b + 8, 22)
  else ((b.drop 4).take (toldN b), toldN b + 8, 0)
end Go.Proofs.Ytdjlhdeejpndcaa
