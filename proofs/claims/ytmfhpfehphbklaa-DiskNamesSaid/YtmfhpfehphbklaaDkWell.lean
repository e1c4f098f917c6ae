/-
  A disk with which nothing goes wrong: what its calls are.
-/
import Derived.Test.YtmfhpfehphbklaaDkIn
namespace Go.Proofs.Ytmfhpfehphbklaa
open Go.RowKit Go.Maps Go.WideMaps
set_option linter.unusedVariables false
set_option linter.unusedSimpArgs false

/-- Nothing goes wrong. -/
structure Well (m : Dk) : Prop where
  down : m.down = false
  cut : m.cut < 0
  fail : m.fail < 0
def Dk.bump (m : Dk) : Dk := { m with done := wrap64 (m.done + 1) }
section
variable {m : Dk}
theorem Well.soon (h : Well m) : m.sooner = m := by
  have h1 := h.cut
  have h2 := h.fail
  unfold Dk.sooner sooner
  rw [if_neg (by omega), if_neg (by omega)]
theorem Well.thing (h : Well m) (does : Dk → Dk) : m.thing does = ((does m).bump, 0) := by
  have h1 := h.cut
  have h2 := h.fail
  unfold Dk.thing
  rw [if_neg (by rw [h.down]; decide), if_neg (by omega), if_neg (by omega), h.soon]
  rfl
theorem Well.bump (h : Well m) : Well m.bump := ⟨h.down, h.cut, h.fail⟩
theorem Well.create (h : Well m) {n : Nm} (hr : right n = true) (hf : Dir.find n m.names = none) (hl : m.names.length < 4096) : m.create n = ((m.doCreate n).bump, 0) := by
  unfold Dk.create
  rw [if_neg (by rw [h.down]; decide), if_neg (by rw [hr]; decide), if_neg (by rw [hf]; decide), if_neg (by omega), h.thing]
theorem Well.append (h : Well m) {n : Nm} {f : Nat} {b : List UInt8} (hf : Dir.find n m.names = some f) (hl : wrap64 (m.used + b.length) ≤ m.most) : m.append n b = ((m.doAppend f b).bump, 0) := by
  unfold Dk.append
  rw [if_neg (by rw [h.down]; decide), hf]
  dsimp only
  rw [if_neg (by omega), h.thing]
theorem Well.sync (h : Well m) {n : Nm} {f : Nat} (hf : Dir.find n m.names = some f) : m.sync n = ((m.doSync f).bump, 0) := by
  unfold Dk.sync
  rw [if_neg (by rw [h.down]; decide), hf]
  dsimp only
  rw [h.thing]
theorem Well.rename (h : Well m) {n to : Nm} {f : Nat} (hf : Dir.find n m.names = some f) (hr : right to = true) (hn : to ≠ n) : m.rename n to = ((m.doRename n to).bump, 0) := by
  unfold Dk.rename
  rw [if_neg (by rw [h.down]; decide), hf]
  dsimp only
  rw [if_neg (by rw [hr]; simp [hn]), h.thing]
theorem Well.remove (h : Well m) {n : Nm} {f : Nat} (hf : Dir.find n m.names = some f) : m.remove n = ((m.doRemove f n).bump, 0) := by
  unfold Dk.remove
  rw [if_neg (by rw [h.down]; decide), hf]
  dsimp only
  rw [h.thing]
theorem Well.syncDir (h : Well m) : m.syncDir = ((m.keep m.pend.length).bump, 0) := h.thing _
theorem Well.read (h : Well m) {n : Nm} {f : Nat} (hf : Dir.find n m.names = some f) {x k : Nat} (hl : x + k ≤ (m.files f).bytes.length) : m.read n x k = (some (((m.files f).bytes.drop x).take k), 0) := by
  unfold Dk.read
  rw [if_neg (by rw [h.down]; decide), hf]
  dsimp only
  rw [if_neg (by omega)]
  rfl
theorem size_some {n : Nm} {f : Nat} (hf : Dir.find n m.names = some f) : m.size n = (((m.files f).bytes.length : Int), true) := by
  unfold Dk.size
  rw [hf]
theorem size_none {n : Nm} (hf : Dir.find n m.names = none) : m.size n = (0, false) := by
  unfold Dk.size
  rw [hf]
end
end Go.Proofs.Ytmfhpfehphbklaa
