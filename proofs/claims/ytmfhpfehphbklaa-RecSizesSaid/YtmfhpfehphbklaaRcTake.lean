/-
  The walks of rec's source: take, number, rest, key.
-/
import Derived.Test.YtmfhpfehphbklaaRcPlain
import Derived.Test.YtmfhpfehphbklaaSteps
import Derived.LoopTactic
import Derived.IntWalk
import Derived.OwnWalk
import Derived.Lib.Hide
namespace Go.Proofs.Ytmfhpfehphbklaa
open Go.RowKit
set_option linter.unusedSimpArgs false

/-- A slice of bytes that lies below block g. -/
structure Low (w : World) (g : Nat) (A : Option Addr) (n c : Nat) (bs : List UInt8) : Prop where
  bytes : Bytes w g A n bs
  cap : n ≤ c
  bare : A = none → c = 0
theorem Low.sl {w : World} {g : Nat} {A : Option Addr} {n c : Nat} {bs : List UInt8} (h : Low w g A n c bs) (hg : g ≤ w.heap.size) : Sl w A n c bs := ⟨h.bytes.wider hg, h.cap, h.bare⟩
theorem Low.carry {w w' : World} {g : Nat} {A : Option Addr} {n c : Nat} {bs : List UInt8} (h : Low w g A n c bs) (hb : Below g w w') : Low w' g A n c bs := ⟨h.bytes.below hb, h.cap, h.bare⟩
/-- The source that stands in block g. -/
def At (w : World) (g : Nat) (s : Src) : Prop := ∃ A n c, Whole w g 77 #[.slice A n c, .bool s.2] ∧ Low w g A n c s.1
/-- Nothing but block g has turned. -/
def Turns (g : Nat) (w w' : World) : Prop := w.grownBy w' (some g)

theorem Turns.refl (g : Nat) (w : World) : Turns g w w := World.grownBy.refl w _
theorem Turns.trans {g : Nat} {a b c : World} (h : Turns g a b) (k : Turns g b c) : Turns g a c := World.grownBy.trans h k
theorem Turns.below {g : Nat} {w w' : World} (h : Turns g w w') (hg : g ≤ w.heap.size) : Below g w w' := (Below.refl _ w).grown h hg (fun k hk => by injection hk with hk; omega)

theorem Turns.set {g : Nat} {w : World} (i : Nat) (u : Value) : Turns g w (w.setCell ⟨g, i, none⟩ u) :=
  ⟨rfl, rfl, rfl, by simp, fun k _ hne => heap_setCell_other w _ k u (fun e => hne (by rw [e]))⟩
theorem Turns.grow {g : Nat} {w w' : World} (h : Grows w w') : Turns g w w' := ⟨h.os, h.tape, h.output, h.size, fun k hk _ => h.block k hk⟩
theorem Low.nil (w : World) (g : Nat) : Low w g none 0 0 [] := ⟨Bytes.nil _ _ _, Nat.le_refl _, fun _ => rfl⟩
theorem Low.first {w : World} {g : Nat} {A : Option Addr} {n c : Nat} {bs : List UInt8} (h : Low w g A n c bs) {k : Nat} (hk : k ≤ n) : Low w g A k c (bs.take k) := ⟨h.bytes.first hk, Nat.le_trans hk h.cap, h.bare⟩
theorem Low.behind {w : World} {g : Nat} {A : Option Addr} {n c : Nat} {bs : List UInt8} (h : Low w g A n c bs) {k : Nat} (hk : k ≤ n) : Low w g (if c = k then A else A.map (·.add k)) (n - k) (c - k) (bs.drop k) := by
  refine ⟨?_, by have := h.cap; omega, fun e => ?_⟩
  · have h2 := Row.behind (k := k) (cap := c) h.bytes hk h.cap
    unfold Bytes
    rw [List.map_drop]
    exact h2
  · split at e
    · omega
    · have : A = none := by simpa using e
      have := h.bare this
      omega
theorem low_set {w : World} {g : Nat} {A : Option Addr} {n c : Nat} {bs : List UInt8} (h : Low w g A n c bs) (i : Nat) (u : Value) : Low (w.setCell ⟨g, i, none⟩ u) g A n c bs := h.carry (Below.setCell (p := ⟨g, i, none⟩) (Below.refl g w) (Nat.le_refl g) u)

set_option maxRecDepth 100000 in
set_option maxHeartbeats 4000000 in
theorem take_any (g : Nat) (s : Src) (n : Nat) (w : World) (h : At w g s) (hn : n ≤ 9223372036854775807) (hs : s.1.length ≤ 140737488351232) :
    Calls Try.prog 105 #[.pointer (some ⟨g, 0, none⟩), .int .i64 (n : Int)] w fun e w' => ∃ A m c, e = .returned (.slice A m c) ∧ Low w' g A m c (takeS s n).1 ∧ At w' g (takeS s n).2 ∧ Turns g w w' := by
  obtain ⟨A, m, c, hw, hl⟩ := h
  obtain ⟨bs, short⟩ := s
  have c0 := hw.cell 0
  have c1 := hw.cell 1
  have f0 := hw.free 0
  have f1 := hw.free 1
  simp only [List.getElem?_toArray, List.getElem?_cons_zero, List.getElem?_cons_succ] at c0 c1
  have hlen := Bytes.len hl.bytes
  dsimp only at hlen hl hs c1
  have hcap := hl.cap
  have HL := Lib.hid hl
  have HW := Lib.hid hw
  clear hw hl
  cases short with
  | true =>
    go_enter Try.func105, Try.ntmps105
    go_wp2_with (fail)
    go_ret
    exact ⟨none, 0, 0, rfl, Low.nil _ _, ⟨A, m, c, HW.out.put 1 (.bool true), low_set HL.out _ _⟩, Turns.set _ _⟩
  | false =>
    by_cases hlt : m < n
    · have h1 : (m : Int) < (n : Int) := by omega
      go_enter Try.func105, Try.ntmps105
      go_wp2_with (fail)
      go_ret
      have ht : takeS (bs, false) (n : Int) = ([], (bs, true)) := by
        unfold takeS
        rw [if_pos (.inr (by dsimp only; omega))]
      rw [ht]
      exact ⟨none, 0, 0, rfl, Low.nil _ _, ⟨A, m, c, HW.out.put 1 (.bool true), low_set HL.out _ _⟩, Turns.set _ _⟩
    · have h1 : ¬ (m : Int) < (n : Int) := by omega
      have ht : takeS (bs, false) (n : Int) = (bs.take n, (bs.drop n, false)) := by
        unfold takeS
        rw [if_neg (by dsimp only; rintro (h | h) <;> first | cases h | omega), Int.toNat_natCast]
      rw [ht]
      have hbh := HL.out.behind (k := n) (by omega)
      have hfi := HL.out.first (k := n) (by omega)
      have HF := Lib.hid hfi
      clear hfi ht
      by_cases hc : c = n
      · rw [if_pos hc] at hbh
        obtain rfl : c = n := hc
        rw [Nat.sub_self, show m - c = 0 by omega] at hbh
        have HB := Lib.hid hbh
        clear hbh
        go_enter Try.func105, Try.ntmps105
        go_wp2_with (fail)
        go_ret
        exact ⟨A, c, c, rfl, low_set HF.out _ _, ⟨_, _, _, HW.out.put 0 _, low_set HB.out _ _⟩, Turns.set _ _⟩
      · rw [if_neg hc] at hbh
        have HB := Lib.hid hbh
        have hc' : ¬ (c : Int) = (n : Int) := by omega
        clear hbh
        go_enter Try.func105, Try.ntmps105
        go_wp2_with (fail)
        go_ret
        exact ⟨A, n, c, rfl, low_set HF.out _ _, ⟨_, _, _, HW.out.put 0 _, low_set HB.out _ _⟩, Turns.set _ _⟩
end Go.Proofs.Ytmfhpfehphbklaa
