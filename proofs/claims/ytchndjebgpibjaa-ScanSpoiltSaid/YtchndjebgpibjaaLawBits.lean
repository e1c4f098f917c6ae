/-
  Parts of slices of items; a literal in a block of its own, as a step of a walk with facts.
-/
import Derived.Test.YtchndjebgpibjaaNextAny
namespace Go.Proofs.Ytchndjebgpibjaa
open Go.RowKit

theorem itCells_drop : ∀ (m : Nat) (ts : List It) (hs : List Hd), ts.length = hs.length → itCells (ts.drop m) (hs.drop m) = (itCells ts hs).drop (3 * m)
  | 0, ts, hs, _ => by simp
  | m + 1, [], [], _ => by simp [itCells]
  | m + 1, t :: ts, h :: hs, e => by
    rw [List.drop_succ_cons, List.drop_succ_cons, itCells_drop m ts hs (by simpa using e)]
    simp only [itCells]
    rw [show 3 * (m + 1) = 3 + 3 * m by omega, ← List.drop_drop]
    rfl
  | _ + 1, [], _ :: _, e => by cases e
  | _ + 1, _ :: _, [], e => by cases e
theorem itCells_take : ∀ (m : Nat) (ts : List It) (hs : List Hd), ts.length = hs.length → itCells (ts.take m) (hs.take m) = (itCells ts hs).take (3 * m)
  | 0, ts, hs, _ => by simp [itCells]
  | m + 1, [], [], _ => by simp [itCells]
  | m + 1, t :: ts, h :: hs, e => by
    rw [List.take_succ_cons, List.take_succ_cons]
    simp only [itCells]
    rw [itCells_take m ts hs (by simpa using e), show 3 * (m + 1) = 3 * m + 3 by omega]
    rfl
  | _ + 1, [], _ :: _, e => by cases e
  | _ + 1, _ :: _, [], e => by cases e

theorem Items.first {w : World} {A : Option Addr} {n c : Nat} {ts : List It} (h : Items w A n c ts) {k : Nat} (hk : k ≤ n) : Items w A k c (ts.take k) := by
  obtain ⟨h1, h2, h3, hs, hl, hr, hq⟩ := h
  refine ⟨by rw [List.length_take]; omega, by omega, h3, hs.take k, by rw [List.length_take]; omega, ?_, fun i x t hx ht => ?_⟩
  · rw [itCells_take k ts hs (by omega)]
    exact hr.first (by omega)
  · rw [List.getElem?_take] at hx ht
    split at hx
    · rename_i hlt
      rw [if_pos hlt] at ht
      exact hq i x t hx ht
    · cases hx
theorem Items.cut {w : World} {ad : Addr} {n c : Nat} {ts : List It} (h : Items w (some ad) n c ts) {k m : Nat} (hk : k ≤ m) (hm : m ≤ n) (hc : ¬ c = k) : Items w (some (ad.add (k * 3))) (m - k) (c - k) ((ts.take m).drop k) := by
  obtain ⟨h1, h2, -, hs, hl, hr, hq⟩ := h
  refine ⟨by rw [List.length_drop, List.length_take]; omega, by omega, (fun h => by cases h), (hs.take m).drop k, by rw [List.length_drop, List.length_take]; omega, ?_, fun i x t hx ht => ?_⟩
  · rw [itCells_drop k _ _ (by rw [List.length_take, List.length_take]; omega), itCells_take m ts hs (by omega)]
    have := (hr.first (k := 3 * m) (by omega)).behind (k := 3 * k) (cap := 3 * c) (by omega) (by omega)
    rw [if_neg (by omega)] at this
    rw [show 3 * (m - k) = 3 * m - 3 * k by omega, Nat.mul_comm k 3]
    exact this
  · rw [List.getElem?_drop, List.getElem?_take] at hx ht
    split at hx
    · rename_i hlt
      rw [if_pos hlt] at ht
      exact hq _ x t hx ht
    · cases hx
/-- One item of a slice. -/
theorem Items.one {w : World} {ad : Addr} {n c : Nat} {ts : List It} (h : Items w (some ad) n c ts) {k : Nat} {t : It} (hk : k < n) (ht : ts[k]? = some t) : Items w (some (ad.add (k * 3))) 1 (c - k) [t] := by
  have h2 := h.cap
  have := h.cut (k := k) (m := k + 1) (by omega) (by omega) (by omega)
  rw [show k + 1 - k = 1 by omega] at this
  have he : (ts.take (k + 1)).drop k = [t] := by
    have hl : k < ts.length := by have := h.len; omega
    rw [List.getElem?_eq_getElem hl] at ht
    injection ht with ht
    rw [List.take_succ_eq_append_getElem hl, List.drop_append_of_le_length (by rw [List.length_take]; omega), List.drop_of_length_le (by rw [List.length_take]; omega), ht]
    rfl
  rw [he] at this
  exact this

/-- A literal's slice, wherever its block lies. -/
def litFact (n ty : Nat) (cs : Array Value) : Fact Grows := ⟨Nat, 0, fun g => .slice (some ⟨g, 0, none⟩) n n, fun g w => Whole w g ty cs, fun _ _ _ h g => g.whole h⟩
section
variable {P : Program} {ops : Array Oper} {W : World} {Q : Act → World → Prop} {o : Oper} {rest : List Oper} {fs : List (Fact Grows)} {ks : Known} {a : Act}
theorem f_lit (n ty : Nat) (cs : Array Value) (hw : Region.wanted o (yielded ops a.tmps) = true) (h1 : ∀ w, Grows W w → (execOp a.eval o).run P w = .ok (.value (.slice (some ⟨w.heap.size, 0, none⟩) n n)) (w.alloc (.cells cs ty)))
    (h2 : ∀ g, wpF P ops Grows W Q rest fs ((o.dst, fun w => Whole w g ty cs) :: ks) (a.put o.dst (.slice (some ⟨g, 0, none⟩) n n))) :
    wpF P ops Grows W Q (o :: rest) (litFact n ty cs :: fs) ks a := by
  unfold wpF fStep
  rw [if_pos hw]
  refine ⟨fun w hW hk => ?_, fun x => h2 x⟩
  unfold gives
  rw [h1 w hW]
  exact ⟨grows_alloc _ _, w.heap.size, rfl, Whole.made _ _ _⟩
end
end Go.Proofs.Ytchndjebgpibjaa
