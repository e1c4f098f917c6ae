/-
  Slices of bytes as functions are handed them, and hand them back; make of a slice as a row of the call's own.
-/
import Derived.Test.YtnnkioekjobbmaaFacts
import Derived.Test.YtnnkioekjobbmaaLists
import Derived.Test.YtnnkioekjobbmaaRows
import Derived.Laws.MakeOwn
import Derived.KernelRfl
namespace Go.Proofs.Ytnnkioekjobbmaa
open Go.RowKit

/-- A slice of bytes, as functions are handed it, and hand it back. -/
structure Sl (w : World) (A : Option Addr) (n c : Nat) (bs : List UInt8) : Prop where
  bytes : Bytes w w.heap.size A n bs
  cap : n ≤ c
  bare : A = none → c = 0
section
variable {w w' : World} {A : Option Addr} {n c : Nat} {bs : List UInt8}
theorem Sl.len (h : Sl w A n c bs) : bs.length = n := Bytes.len h.bytes
theorem Sl.grow (hg : Grows w w') (h : Sl w A n c bs) : Sl w' A n c bs := ⟨hg.bytes h.bytes, h.cap, h.bare⟩
theorem Sl.nil (w : World) : Sl w none 0 0 [] := ⟨Bytes.nil _ _ _, Nat.le_refl _, fun _ => rfl⟩
theorem Sl.alloc (h : Sl w A n c bs) (o : Obj) : Sl (w.alloc o) A n c bs := h.grow ((Below.refl _ _).alloc (Nat.le_refl _) o)
theorem Sl.owned {base : Nat} {e : TypeId} (h : w.ownsRow base e 1 (.slice A n c) n (bs.map byteV)) : Sl w A n c bs := by
  refine ⟨Row.owned h, ?_, fun hA => ?_⟩
  · rcases h.2 with ⟨h1, h2⟩ | ⟨g, cap, _, h1, _, _, h2, _⟩
    · omega
    · injection h1 with _ _ h1; omega
  · rcases h.2 with ⟨h1, h2⟩ | ⟨g, cap, _, h1, _⟩
    · injection h1
    · injection h1 with h1 _ _; rw [hA] at h1; cases h1
theorem Sl.first (h : Sl w A n c bs) {k : Nat} (hk : k ≤ n) : Sl w A k c (bs.take k) := ⟨h.bytes.first hk, Nat.le_trans hk h.cap, h.bare⟩
end

/-- A part of a slice, from place k up to place m. -/
theorem Sl.part {w : World} {ad : Addr} {n c k m : Nat} {bs : List UInt8} (h : Sl w (some ad) n c bs) (hk : k ≤ m) (hm : m ≤ n) (hc : ¬ c = k) : Sl w (some (ad.add k)) (m - k) (c - k) ((bs.take m).drop k) := by
  have h1 := h.first hm
  refine ⟨?_, by have := h.cap; omega, fun h => by cases h⟩
  have h2 := Row.behind (k := k) (cap := c) h1.bytes hk h1.cap
  rw [if_neg hc] at h2
  unfold Bytes
  rw [List.map_drop]
  exact h2

/-- What is the call's own stays so as the world grows. -/
theorem owned_grow {w w' : World} {base : Nat} {e : TypeId} {size : Nat} {v : Value} {n : Nat} {xs : List Value} (h : w.ownsRow base e size v n xs) (hg : Grows w w') : w'.ownsRow base e size v n xs := by
  obtain ⟨h1, h2⟩ := h
  refine ⟨h1, ?_⟩
  rcases h2 with h2 | ⟨g, cap, cur, hv, hb, hh, r⟩
  · exact .inl h2
  · exact .inr ⟨g, cap, cur, hv, hb, by rw [hg.block g (Array.getElem?_eq_some_iff.1 hh).1]; exact hh, r⟩

theorem owned_from {w : World} {base base' : Nat} {e : TypeId} {size : Nat} {v : Value} {n : Nat} {xs : List Value} (h : w.ownsRow base e size v n xs) (hb : base' ≤ base) : w.ownsRow base' e size v n xs := by
  obtain ⟨h1, h2⟩ := h
  refine ⟨h1, ?_⟩
  rcases h2 with h2 | ⟨g, cap, cur, hv, hg, r⟩
  · exact .inl h2
  · exact .inr ⟨g, cap, cur, hv, Nat.le_trans hb hg, r⟩

theorem infoU8 : (Try.prog.info? 5).map (fun i => (i.zero, i.size, i.bytes)) = some (some (.int .u8 0), 1, 1) := by kernel_rfl

section
variable {P : Program} {ops : Array Oper} {rest : List Oper} {o : Oper} {a : Act} {w : World} {Q : Exit → Act → World → Prop}
/-- 'make([]T, 0, c)': a row of the call's own, without cells yet. -/
theorem list_make_row (hgd : o.guard = none) (t : TypeId) (l x : Operand) (ho : o.op = .makeSlice t l x) {e : TypeId} {i : TypeInfo} {z : Value} (ht : P.underlying t = some (.slice e)) (hi : P.info? e = some i) (hz : i.zero = some z)
    {size : Nat} (hsize : i.size = size) {kl kc : IntKind} (hl : a.eval l = .int kl 0) (c : Nat) (hx : a.eval x = .int kc (c : Int)) (hbytes : i.bytes * c ≤ 281474976710656) (h63 : c ≤ maxLen)
    (h : ∀ w', w'.ownsRow w.heap.size e size (.slice (some ⟨w.heap.size, 0, none⟩) 0 c) 0 [] → w.grownBy w' none → wpList P ops Q rest (a.put o.dst (.slice (some ⟨w.heap.size, 0, none⟩) 0 c)) w') : wpList P ops Q (o :: rest) a w := by
  refine wpList_plain hgd fun K hK => ?_
  obtain ⟨w', hrun, h2, h3⟩ := run_make_own (P := P) w w.heap.size t e i z size ht hi hz hsize kl kc c hbytes h63 (Nat.le_refl _)
  unfold Oper.wp execOp
  simp only [ho, hl, hx, Sem.run_bind, Sem.run_pure, hrun, Result.andThen_ok]
  exact hK _ _ (h w' h2 h3)
end

section
variable {ops : Array Oper} {rest : List Oper} {o : Oper} {a : Act} {w : World} {Q : Exit → Act → World → Prop}
end
/-- A new row of the call's own, without bytes yet. -/
theorem owned_none (w : World) : (w.alloc (.cells #[] 5)).ownsRow w.heap.size 5 1 (.slice (some ⟨w.heap.size, 0, none⟩) 0 0) 0 (([] : List UInt8).map byteV) := World.ownsRow_lit w #[] 0 (Nat.le_refl _) (Nat.zero_le _) rfl
theorem grows_alloc (w : World) (o : Obj) : Grows w (w.alloc o) := (Below.refl _ _).alloc (Nat.le_refl _) o
theorem le_alloc (w : World) (o : Obj) : w.heap.size ≤ (w.alloc o).heap.size := by simp
end Go.Proofs.Ytnnkioekjobbmaa
