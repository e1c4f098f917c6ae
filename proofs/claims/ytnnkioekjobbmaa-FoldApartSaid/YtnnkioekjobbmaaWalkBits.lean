/-
  Bits for walks of drawn regions with facts: a literal slice that is made; what is known behind; rows that lie apart.
-/
import Derived.Test.YtnnkioekjobbmaaFactsTail
import Derived.Test.YtnnkioekjobbmaaSteps
namespace Go.Proofs.Ytnnkioekjobbmaa
open Go.RowKit

/-- A literal slice of n cells in a block of its own. -/
def blkFact (t : TypeId) (cs : Array Value) (n : Nat) : Fact Grows := ⟨Nat, 0, fun g => .slice (some ⟨g, 0, none⟩) n n, fun g w => Whole w g t cs, fun _ _ _ h g => Grows.whole g h⟩
theorem Known.at {ks : Known} {w : World} (h : ks.all w) (i : Nat) {d : Option Tmp} {R : World → Prop} (hi : ks[i]? = some (d, R)) : R w := h _ (List.mem_of_getElem? hi)
section
variable {P : Program} {ops : Array Oper} {W : World} {Q : Act → World → Prop} {o : Oper} {rest : List Oper} {fs : List (Fact Grows)} {ks : Known} {a : Act}
theorem f_made (t : TypeId) (cs : Array Value) (n : Nat) (hw : Region.wanted o (yielded ops a.tmps) = true) (h1 : ∀ w, Grows W w → (execOp a.eval o).run P w = .ok (.value (.slice (some ⟨w.heap.size, 0, none⟩) n n)) (w.alloc (.cells cs t)))
    (h2 : ∀ g, wpF P ops Grows W Q rest fs ((o.dst, fun w => Whole w g t cs) :: ks) (a.put o.dst (.slice (some ⟨g, 0, none⟩) n n))) :
    wpF P ops Grows W Q (o :: rest) (blkFact t cs n :: fs) ks a := by
  unfold wpF fStep
  rw [if_pos hw]
  refine ⟨fun w hW hk => ?_, fun g => h2 g⟩
  unfold gives
  rw [h1 w hW]
  exact ⟨grows_alloc _ _, w.heap.size, rfl, Whole.made _ _ _⟩
theorem wpF_end {ops : Array Oper} {W : World} {Q : Act → World → Prop} {fs : List (Fact Grows)} {ks : Known} {a : Act} (h : ∀ w, Grows W w → ks.all w → Q a w) : wpF P ops Grows W Q [] fs ks a := h
end
/-- Rows that lie apart. -/
def Apart (v u : Value) : Prop := v.ownBlock = none ∨ v.ownBlock ≠ u.ownBlock
theorem Apart.nil (u : Value) : Apart (.slice none 0 0) u := .inl rfl
theorem Apart.symm {v u : Value} (h : Apart v u) : Apart u v := by
  rcases h with h | h
  · cases hu : u.ownBlock with
    | none => exact .inl hu
    | some g => exact .inr (by rw [h, hu]; intro e; cases e)
  · exact .inr (Ne.symm h)
/-- v has been put in place of u, by an append; x lay apart from it. -/
theorem Apart.moved {w : World} {v u x : Value} {base : Nat} {e : TypeId} {size n : Nat} {xs : List Value} (h : Apart x u) (hx : w.ownsRow base e size x n xs) (hv : v.ownBlock = u.ownBlock ∨ v.ownBlock = some w.heap.size) : Apart x v := by
  rcases h with h | h
  · exact .inl h
  · rcases hv with hv | hv
    · exact .inr (by rw [hv]; exact h)
    · refine .inr fun e => ?_
      have := (hx.lt w.heap.size (e.trans hv)).2
      omega

theorem mixed : Try.prog.follows .mixedOrders = true := by kernel_rfl
end Go.Proofs.Ytnnkioekjobbmaa
