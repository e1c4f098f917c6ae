/-
  Rows that lie below, and stay so.
-/
import Derived.Test.YtdjlhdeejpndcaaIter
namespace Go.Proofs.Ytdjlhdeejpndcaa
open Go.RowKit
set_option linter.unusedVariables false
set_option linter.unusedSimpArgs false

/-- What was there in A is as it was. -/
def Lowly (A w : World) : Prop := A.heap.size ≤ w.heap.size ∧ ∀ k, k < A.heap.size → w.heap[k]? = A.heap[k]?
theorem Lowly.grows {A w : World} (h : Grows A w) : Lowly A w := ⟨h.size, fun k hk => h.block k hk⟩
theorem Lowly.trans {A w w' : World} (h : Lowly A w) (hs : w.heap.size ≤ w'.heap.size) (hk : ∀ k, k < A.heap.size → w'.heap[k]? = w.heap[k]?) : Lowly A w' := ⟨Nat.le_trans h.1 hs, fun k h1 => (hk k h1).trans (h.2 k h1)⟩
theorem Row.lowly {A w : World} {X : Option Addr} {n : Nat} {xs : List Value} (h : Row A A.heap.size X n xs) (hl : Lowly A w) : Row w w.heap.size X n xs :=
  ⟨h.len, fun k v hv => by
    obtain ⟨ad, h1, h2, h3⟩ := h.spot k v hv
    exact ⟨ad, h1, Nat.lt_of_lt_of_le h2 hl.1, by rw [World.cell?_of_block (hl.2 (ad.add k).block (by rw [add_block]; exact h2))]; exact h3⟩⟩
theorem Sl.lowly {A w : World} {X : Option Addr} {n c : Nat} {bs : List UInt8} (h : Sl A X n c bs) (hl : Lowly A w) : Sl w X n c bs := ⟨Row.lowly h.bytes hl, h.cap, h.bare⟩
theorem mine_row {n₀ m n₁ : Nat} {w : World} {e : TypeId} {size : Nat} {v : Value} {n : Nat} {xs : List Value} (h : w.ownsRow n₁ e size v n xs) : ∀ g, v.ownBlock = some g → n₁ ≤ g ∧ Mine n₀ m n₁ w g := by
  intro g hg
  rcases h.2 with ⟨rfl, _⟩ | ⟨g', cap, cur, rfl, hb, hh, _⟩
  · simp [Value.ownBlock] at hg
  · obtain rfl : g' = g := by simpa [Value.ownBlock] using hg
    exact ⟨hb, .inr ⟨hb, _, _, _, hh⟩⟩
end Go.Proofs.Ytdjlhdeejpndcaa
