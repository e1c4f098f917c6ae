/-
  Blocks whose cells are known, some of which may not be written; a literal of bytes that is turned to its own type; slices as strings.
-/
import Derived.Test.YtadgbobemmfjoaaSlices
import Derived.Laws.IdiomStrings
import Derived.Lib.BufferRead
namespace Go.Proofs.Ytadgbobemmfjoaa
open Go.RowKit

/-- Block g has the cells cs; some of its places may not be written. -/
def Held (w : World) (g : Nat) (cs : Array Value) : Prop := ∃ t fr, w.heap[g]? = some (.cells cs t fr)
theorem Held.lt {w : World} {g : Nat} {cs : Array Value} (h : Held w g cs) : g < w.heap.size := by
  obtain ⟨t, fr, h⟩ := h
  exact (Array.getElem?_eq_some_iff.1 h).1
theorem Held.after {w w' : World} {g : Nat} {cs : Array Value} (hb : Below w.heap.size w w') (h : Held w g cs) : Held w' g cs := by
  have hl := h.lt
  obtain ⟨t, fr, h⟩ := h
  exact ⟨t, fr, by rw [hb.block g hl]; exact h⟩
theorem Held.after' {w w' : World} {g : Nat} {cs : Array Value} (h : Held w g cs) (hb : Below w.heap.size w w') : Held w' g cs := h.after hb
theorem Held.same {w w' : World} {g : Nat} {cs : Array Value} (h : Held w g cs) (e : w'.heap[g]? = w.heap[g]?) : Held w' g cs := by
  obtain ⟨t, fr, h⟩ := h
  exact ⟨t, fr, by rw [e]; exact h⟩
theorem Whole.after' {w w' : World} {g t : Nat} {cs : Array Value} (h : Whole w g t cs) (hb : Below w.heap.size w w') : Whole w' g t cs := h.below hb h.lt
theorem Whole.same {w w' : World} {g t : Nat} {cs : Array Value} (h : Whole w g t cs) (e : w'.heap[g]? = w.heap[g]?) : Whole w' g t cs := by
  unfold Whole
  rw [e]
  exact h
theorem Held.alloc {w : World} {g : Nat} {cs : Array Value} (h : Held w g cs) (o : Obj) : Held (w.alloc o) g cs :=
  h.after ((Below.refl _ _).alloc (Nat.le_refl _) o)
theorem Held.bytes {w : World} {g n : Nat} {cs : Array Value} (h : Held w g cs) (bs : List UInt8) (he : cs = (bs.map byteV).toArray) (hn : bs.length = n) : Bytes w w.heap.size (some ⟨g, 0, none⟩) n bs := by
  have hl := h.lt
  obtain ⟨t, fr, h⟩ := h
  refine ⟨by simp [hn], fun k v hv => ⟨⟨g, 0, none⟩, rfl, hl, ?_⟩⟩
  rw [show (⟨g, 0, none⟩ : Addr).add k = ⟨g, k, none⟩ by unfold Addr.add; split <;> simp_all, cell_of_row w g k cs t fr h, he]
  simpa using hv

/-- A literal's slice, turned to its own type: its block gets a mark behind its last cell; nothing else turns. -/
theorem conv_mark {w : World} {g n c : Nat} {cs : Array Value} (h : Whole w g 5 cs) :
    ∃ w', (convert 90 90 (.slice (some ⟨g, 0, none⟩) n c)).run Try.prog w = .ok (.slice (some ⟨g, 0, none⟩) n c) w' ∧ Held w' g cs ∧ Below g w w' ∧ ∀ k, k ≠ g → w'.heap[k]? = w.heap[k]? := by
  refine ⟨w.freeze ⟨g, cs.size, none⟩ 1, ?_, ⟨5, (cs.size, cs.size + 1), ?_⟩, ⟨rfl, rfl, rfl, ?_, fun k hk => ?_⟩, fun k hk => ?_⟩
  · have hsh : w.shape? g = some (5, cs.size) := by
      unfold World.shape?
      rw [h]
    simp [convert, run_underlying Try.underlying90, run_underlying Try.underlying5, markStringish, hsh]
  · simp only [World.freeze, Nat.one_ne_zero, if_false, Array.getElem?_modify]
    rw [h]
    rfl
  · simp [World.freeze]
  · simp only [World.freeze, Nat.one_ne_zero, if_false, Array.getElem?_modify]
    rw [if_neg (by omega)]
  · simp only [World.freeze, Nat.one_ne_zero, if_false, Array.getElem?_modify]
    rw [if_neg (fun e => hk e.symm)]

/-- A literal's slice of bytes. -/
theorem Held.sl {w : World} {g n : Nat} {cs : Array Value} (h : Held w g cs) (bs : List UInt8) (he : cs = (bs.map byteV).toArray) (hn : bs.length = n) : Sl w (some ⟨g, 0, none⟩) n n bs :=
  ⟨h.bytes bs he hn, Nat.le_refl _, fun h => by cases h⟩
theorem Whole.sl {w : World} {g n t : Nat} {cs : Array Value} (h : Whole w g t cs) (bs : List UInt8) (he : cs = (bs.map byteV).toArray) (hn : bs.length = n) : Sl w (some ⟨g, 0, none⟩) n n bs :=
  Held.sl ⟨t, _, h⟩ bs he hn

/-- 'string(b)'. -/
theorem run_string {w : World} {A : Option Addr} {n c : Nat} {bs : List UInt8} (h : Sl w A n c bs) : (convert 90 9 (.slice A n c)).run Try.prog w = .ok (.string ⟨bs.toArray⟩) w := by
  have hl := h.len
  subst hl
  cases A with
  | none =>
    have hc := h.bare rfl
    have hn := h.cap
    have hb : bs = [] := List.eq_nil_of_length_eq_zero (by omega)
    subst hb
    exact Lib.run_convert_nil_bytes w 90 9 _ c Try.underlying90 Try.underlying5 Try.underlying9
  | some ad =>
    refine run_convert_bytes_back w 90 9 _ ad c bs Try.underlying90 Try.underlying5 Try.underlying9 (fun j hj => ?_)
    obtain ⟨_, e, _, hc⟩ := h.bytes.spot hj
    injection e with e
    subst e
    rw [hc]
    simp [hj]
end Go.Proofs.Ytadgbobemmfjoaa
