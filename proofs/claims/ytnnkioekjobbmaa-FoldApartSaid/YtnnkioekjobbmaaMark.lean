/-
  Blocks whose cells are known, some of which may not be written; a literal of bytes that is turned to its own type; slices as strings.
-/
import Derived.Test.YtnnkioekjobbmaaSlices
import Derived.Laws.IdiomStrings
import Derived.Lib.BufferRead
namespace Go.Proofs.Ytnnkioekjobbmaa
open Go.RowKit

/-- Block g has the cells cs; some of its places may not be written. -/
def Held (w : World) (g : Nat) (cs : Array Value) : Prop := ∃ t fr, w.heap[g]? = some (.cells cs t fr)
theorem Held.lt {w : World} {g : Nat} {cs : Array Value} (h : Held w g cs) : g < w.heap.size := by
  obtain ⟨t, fr, h⟩ := h
  exact (Array.getElem?_eq_some_iff.1 h).1
theorem Held.after {w w' : World} {g : Nat} {cs : Array Value} (hb : Below w.heap.size w w') (h : Held w g cs) : Held w' g cs := by
  have hl := h.lt
  obtain ⟨t, fr, h⟩ := h
  exact ⟨t, fr, by rw [hb.block g hl]; exact h⟩
theorem Held.after' {w w' : World} {g : Nat} {cs : Array Value} (h : Held w g cs) (hb : Below w.heap.size w w') : Held w' g cs := h.after hb
theorem Held.same {w w' : World} {g : Nat} {cs : Array Value} (h : Held w g cs) (e : w'.heap[g]? = w.heap[g]?) : Held w' g cs := by
  obtain ⟨t, fr, h⟩ := h
  exact ⟨t, fr, by rw [e]; exact h⟩
theorem Whole.after' {w w' : World} {g t : Nat} {cs : Array Value} (h : Whole w g t cs) (hb : Below w.heap.size w w') : Whole w' g t cs := h.below hb h.lt
theorem Whole.same {w w' : World} {g t : Nat} {cs : Array Value} (h : Whole w g t cs) (e : w'.heap[g]? = w.heap[g]?) : Whole w' g t cs := by
  unfold Whole
  rw [e]
  exact h
theorem Held.alloc {w : World} {g : Nat} {cs : Array Value} (h : Held w g cs) (o : Obj) : Held (w.alloc o) g cs :=
  h.after ((Below.refl _ _).alloc (Nat.le_refl _) o)
theorem Held.bytes {w : World} {g n : Nat} {cs : Array Value} (h : Held w g cs) (bs : List UInt8) (he : cs = (bs.map byteV).toArray) (hn : bs.length = n) : Bytes w w.heap.size (some ⟨g, 0, none⟩) n bs := by
  have hl := h.lt
  obtain ⟨t, fr, h⟩ := h
  refine ⟨by simp [hn], fun k v hv => ⟨⟨g, 0, none⟩, rfl, hl, ?_⟩⟩
  rw [show (⟨g, 0, none⟩ : Addr).add k = ⟨g, k, none⟩ by unfold Addr.add; split <;> simp_all, cell_of_row w g k cs t fr h, he]
  simpa using hv

/-- A literal's slice of bytes. -/
theorem Held.sl {w : World} {g n : Nat} {cs : Array Value} (h : Held w g cs) (bs : List UInt8) (he : cs = (bs.map byteV).toArray) (hn : bs.length = n) : Sl w (some ⟨g, 0, none⟩) n n bs :=
  ⟨h.bytes bs he hn, Nat.le_refl _, fun h => by cases h⟩
theorem Whole.sl {w : World} {g n t : Nat} {cs : Array Value} (h : Whole w g t cs) (bs : List UInt8) (he : cs = (bs.map byteV).toArray) (hn : bs.length = n) : Sl w (some ⟨g, 0, none⟩) n n bs :=
  Held.sl ⟨t, _, h⟩ bs he hn

end Go.Proofs.Ytnnkioekjobbmaa
