/-
  Append of items as a step of a region that draws its order; parts of a row of items.
-/
import Derived.Test.YtchndjebgpibjaaShift
import Derived.Deep.RegionHeld3
namespace Go.Proofs.Ytchndjebgpibjaa
open Go.RowKit

theorem own_empty (w : World) : ((w.alloc (.cells #[] 29)).drew).ownsRow w.heap.size 29 3 (.slice (some ⟨w.heap.size, 0, none⟩) 0 0) 0 [] :=
  owned_grow (World.ownsRow_lit w #[] 0 (Nat.le_refl _) (Nat.zero_le _) rfl) (grows_drew _)

theorem Row.drew {w : World} {B n : Nat} {A : Option Addr} {xs : List Value} (h : Row w B A n xs) : Row w.drew B A n xs := ⟨h.len, h.spot⟩
theorem grows_empty (w : World) : Grows w ((w.alloc (.cells #[] 29)).drew) := Grows.trans (grows_alloc w _) (grows_drew _)
theorem step_append_items {ops : Array Oper} {o : Oper} {a : Act} {w : World} {K : Act → World → Prop} {Q : Exit → Act → World → Prop} {E : Prop} (hgd : o.guard = none) (s x : Operand)
    (ho : o.op = .call { callee := .builtin .append, args := #[s, x], argTypes := #[24, 24] })
    {base : Nat} {v : Value} {n : Nat} {xs : List Value} (hs : a.eval s = v) (hown : w.ownsRow base 29 3 v n xs)
    {A2 : Option Addr} {m c2 B : Nat} {us : List It} {gs : List Hd} (hx : a.eval x = .slice A2 m c2) (hr : Row w B A2 (3 * m) (itCells us gs)) (hbare : A2 = none → c2 = 0) (hc : m ≤ c2) (N : Nat) (hN : n + m = N) (hn : N ≤ 1000000) (hbase : base ≤ w.heap.size)
    (hk : ∀ A' c' w', w'.ownsRow base 29 3 (.slice A' N c') N (xs ++ itCells us gs) → Below base w w' → K (a.put o.dst (.slice A' N c')) w') :
    if Region.wanted o (yielded ops a.tmps) = true then Oper.wp Try.prog o a w K Q else E := by
  subst hN
  have hw : Region.wanted o (yielded ops a.tmps) = true := by simp [Region.wanted, hgd]
  rw [if_pos hw]
  obtain ⟨A', c', w', hrun, h2, h3⟩ := run_append_items (ty := o.type) hown hr hbare hc hn hbase
  unfold Oper.wp execOp
  simp only [ho, resolve, invoke, builtin, Sem.run_bind, Sem.run_pure, Result.andThen_ok, List.map_toArray, List.map_cons, List.map_nil, hs, hx, hrun]
  exact hk A' c' w' h2 ((Below.refl _ w).grown h3 hbase fun k hk => (hown.lt k hk).1)

/-- The first k of a row of items; those behind the first k + 1. -/
theorem row_first {w : World} {B : Nat} {A : Option Addr} {n : Nat} {ts : List It} {hs : List Hd} (hl : ts.length = hs.length) (h : Row w B A (3 * n) (itCells ts hs)) {k : Nat} (hk : k ≤ n) : Row w B A (3 * k) (itCells (ts.take k) (hs.take k)) := by
  rw [itCells_take k ts hs hl]
  exact h.first (by omega)
theorem row_behind {w : World} {B : Nat} {ad : Addr} {n c : Nat} {ts : List It} {hs : List Hd} (hl : ts.length = hs.length) (h : Row w B (some ad) (3 * n) (itCells ts hs)) {k : Nat} (hk : k ≤ n) (hc : n ≤ c) : Row w B (if c = k then some ad else some (ad.add (k * 3))) (3 * (n - k)) (itCells (ts.drop k) (hs.drop k)) := by
  rw [itCells_drop k ts hs hl]
  have := h.behind (k := 3 * k) (cap := 3 * c) (by omega) (by omega)
  rw [show 3 * (n - k) = 3 * n - 3 * k by omega]
  by_cases e : c = k
  · rw [if_pos (by omega)] at this
    rw [if_pos e]
    exact this
  · rw [if_neg (by omega)] at this
    rw [if_neg e, Nat.mul_comm k 3]
    exact this
theorem Lies.part {w : World} {hs : List Hd} {ts : List It} (h : Lies w hs ts) (k : Nat) : Lies w (hs.take k ++ hs.drop (k + 1)) (ts.take k ++ ts.drop (k + 1)) := by
  refine Lies.append ⟨by rw [List.length_take, List.length_take, h.1], fun i x t hx ht => ?_⟩ ⟨by rw [List.length_drop, List.length_drop, h.1], fun i x t hx ht => ?_⟩
  · rw [List.getElem?_take] at hx ht
    split at hx
    · rename_i hlt
      rw [if_pos hlt] at ht
      exact h.2 i x t hx ht
    · cases hx
  · rw [List.getElem?_drop] at hx ht
    exact h.2 _ x t hx ht
end Go.Proofs.Ytchndjebgpibjaa
