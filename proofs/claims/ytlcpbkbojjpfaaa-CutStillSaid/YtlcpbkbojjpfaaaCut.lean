/-
  The cutter of package cut in memory; New, Size, Left, Rest, and the closure that full hands back.
-/
import Derived.Test.YtlcpbkbojjpfaaaRangeM
import Derived.Test.YtlcpbkbojjpfaaaRowsIn
import Derived.Test.YtlcpbkbojjpfaaaSteps
import Derived.Test.YtlcpbkbojjpfaaaCutPlain
import Derived.Lib.Hide
import Derived.IntWalk
namespace Go.Proofs.Ytlcpbkbojjpfaaa
open Go.RowKit
set_option linter.unusedVariables false
set_option linter.unusedSimpArgs false

/-- A cutter at block g: pieces of P bytes, Z written in all, L left, in memory of its own from block base on. -/
structure CutHas (w : World) (g base P Z : Nat) (v : Value) (L : List UInt8) : Prop where
  cells : Whole w g 89 #[.int .i64 (P : Nat), .int .i64 (Z : Nat), v]
  left : w.ownsRow base 5 1 v L.length (L.map byteV)
  short : L.length < P

/-- The call's own row stays where its block does. -/
theorem owned_same {w w' : World} {base : Nat} {e : TypeId} {size : Nat} {v : Value} {n : Nat} {xs : List Value} (h : w.ownsRow base e size v n xs) (hk : ∀ k, v.ownBlock = some k → w'.heap[k]? = w.heap[k]?) : w'.ownsRow base e size v n xs := by
  obtain ⟨h1, h2⟩ := h
  refine ⟨h1, ?_⟩
  rcases h2 with h2 | ⟨g, cap, cur, rfl, hb, hh, r⟩
  · exact .inl h2
  · exact .inr ⟨g, cap, cur, rfl, hb, (hk g rfl).trans hh, r⟩
theorem owned_lt {w : World} {base : Nat} {e : TypeId} {size : Nat} {v : Value} {n : Nat} {xs : List Value} (h : w.ownsRow base e size v n xs) {k : Nat} (hk : v.ownBlock = some k) : base ≤ k ∧ k < w.heap.size := h.lt k hk
/-- A row's block is not one of another type. -/
theorem owned_type {w : World} {base : Nat} {e t : TypeId} {size : Nat} {v : Value} {n : Nat} {xs : List Value} {g : Nat} {cs : Array Value} (h : w.ownsRow base e size v n xs) (hw : Whole w g t cs) (ht : e ≠ t) : v.ownBlock ≠ some g := by
  intro hg
  rcases h.2 with ⟨rfl, _⟩ | ⟨g', cap, cur, rfl, hb, hh, r⟩
  · simp [Value.ownBlock] at hg
  · obtain rfl : g' = g := by simpa [Value.ownBlock] using hg
    unfold Whole at hw
    rw [hh] at hw
    injection hw with hw
    injection hw with _ hw _
    exact ht hw
section
variable {w w' : World} {g base P Z : Nat} {v : Value} {L : List UInt8}
theorem CutHas.apart (h : CutHas w g base P Z v L) : v.ownBlock ≠ some g := owned_type h.left h.cells (by decide)
theorem CutHas.keep (h : CutHas w g base P Z v L) (hk : ∀ k, k = g ∨ v.ownBlock = some k → w'.heap[k]? = w.heap[k]?) : CutHas w' g base P Z v L :=
  ⟨(hk g (.inl rfl)).trans h.cells, owned_same h.left fun k e => hk k (.inr e), h.short⟩
theorem CutHas.grow (h : CutHas w g base P Z v L) (hg : Grows w w') : CutHas w' g base P Z v L := h.keep fun k hk => by
  rcases hk with rfl | hk
  · exact hg.block _ h.cells.lt
  · exact hg.block _ (owned_lt h.left hk).2
theorem CutHas.slice (h : CutHas w g base P Z v L) : ∃ A c, v = .slice A L.length c ∧ (A = none → c = 0) := slice_of_owned h.left
theorem CutHas.sl {A : Option Addr} {m c : Nat} (h : CutHas w g base P Z (.slice A m c) L) : Sl w A m c L := by
  obtain ⟨A', c', e, _⟩ := h.slice
  injection e with e1 e2 e3
  subst e1 e2 e3
  exact Sl.owned h.left
end

theorem new_cut (x : Int) (w : World) (hx : -9223372036854775808 ≤ x ∧ x < 9223372036854775808) : Calls Try.prog 31 #[.int .i64 x] w fun e w' =>
    (x < 1 ∨ 4096 < x) ∧ e = .returned (.pointer none) ∧ w' = w ∨ ∃ P : Nat, x = P ∧ 1 ≤ P ∧ P ≤ 4096 ∧ e = .returned (.pointer (some ⟨w.heap.size, 0, none⟩)) ∧ CutHas w' w.heap.size w.heap.size P 0 (.slice none 0 0) [] ∧ Grows w w' := by
  have hxx := Lib.hid hx
  by_cases h1 : x < 1
  · have d1 : decide (x < 1) = true := decide_eq_true h1
    have H1 := Lib.hid h1
    clear h1 hx
    go_enter Try.func31, Try.ntmps31
    go_wp2
    go_ret
    exact .inl ⟨.inl H1.out, rfl, rfl⟩
  · by_cases h2 : 4096 < x
    · have d1 : decide (x < 1) = false := by simpa using h1
      have d2 : decide (x > 4096) = true := by simpa using h2
      have H2 := Lib.hid h2
      clear h1 h2 hx
      go_enter Try.func31, Try.ntmps31
      go_wp2
      go_ret
      exact .inl ⟨.inr H2.out, rfl, rfl⟩
    · obtain ⟨P, rfl⟩ : ∃ P : Nat, x = P := ⟨x.toNat, by omega⟩
      have d1 : decide ((P : Int) < 1) = false := by simp; omega
      have d2 : decide ((P : Int) > 4096) = false := by simp; omega
      have HP := Lib.hid (show 1 ≤ P ∧ P ≤ 4096 by omega)
      clear h1 h2 hx
      go_enter Try.func31, Try.ntmps31
      go_wp2
      go_ret
      refine .inr ⟨P, rfl, HP.out.1, HP.out.2, rfl, ⟨Whole.made _ _ _, World.ownsRow_nil _ _ _ _, by simp; exact HP.out.1⟩, grows_alloc _ _⟩

theorem size_cut {g base P Z : Nat} {v : Value} {L : List UInt8} (w : World) (h : CutHas w g base P Z v L) : Calls Try.prog 38 #[.pointer (some ⟨g, 0, none⟩)] w fun e w' => e = .returned (.int .i64 (Z : Nat)) ∧ w = w' := by
  have c1 := h.cells.cell 1
  simp only [List.getElem?_toArray, List.getElem?_cons_zero, List.getElem?_cons_succ] at c1
  clear h
  go_enter Try.func38, Try.ntmps38
  go_wp2
  go_ret
  exact ⟨rfl, rfl⟩

theorem left_cut {g base P Z : Nat} {v : Value} {L : List UInt8} (w : World) (h : CutHas w g base P Z v L) : Calls Try.prog 40 #[.pointer (some ⟨g, 0, none⟩)] w fun e w' => e = .returned (.int .i64 (L.length : Nat)) ∧ w = w' := by
  obtain ⟨A, c, rfl, _⟩ := h.slice
  have c2 := h.cells.cell 2
  simp only [List.getElem?_toArray, List.getElem?_cons_zero, List.getElem?_cons_succ] at c2
  clear h
  go_enter Try.func40, Try.ntmps40
  go_wp2
  go_ret
  exact ⟨rfl, rfl⟩

/-- What is left is handed over: nothing else turns but the cutter's own block. -/
theorem rest_raw {g P Z : Nat} {A : Option Addr} {m c : Nat} (w : World) (h : Whole w g 89 #[.int .i64 (P : Nat), .int .i64 (Z : Nat), .slice A m c]) : Calls Try.prog 33 #[.pointer (some ⟨g, 0, none⟩)] w fun e w' =>
    e = .returned (.slice A m c) ∧ Whole w' g 89 #[.int .i64 (P : Nat), .int .i64 (Z : Nat), .slice none 0 0] ∧ Spares (fun k => k = g) w w' := by
  have c2 := h.cell 2
  have f2 := h.free 2
  simp only [List.getElem?_toArray, List.getElem?_cons_zero, List.getElem?_cons_succ] at c2
  have H := Lib.hid h
  clear h
  go_enter Try.func33, Try.ntmps33
  go_wp2
  go_ret
  exact ⟨rfl, H.out.put 2 _, (Spares.refl (fun k => k = g) _).setCell (p := ⟨g, 2, none⟩) rfl _⟩
theorem rest_cut {g base P Z : Nat} {v : Value} {L : List UInt8} (w : World) (hb : base ≤ w.heap.size) (h : CutHas w g base P Z v L) : Calls Try.prog 33 #[.pointer (some ⟨g, 0, none⟩)] w fun e w' =>
    e = .returned v ∧ w'.ownsRow base 5 1 v L.length (L.map byteV) ∧ CutHas w' g base P Z (.slice none 0 0) [] ∧ Spares (fun k => k = g) w w' := by
  obtain ⟨A, c, rfl, _⟩ := h.slice
  refine (rest_raw w h.cells).mono ?_
  rintro e w' ⟨rfl, h1, h2⟩
  refine ⟨rfl, owned_same h.left fun k hk => h2.same k (owned_lt h.left hk).2 fun e => h.apart (e ▸ hk), ⟨h1, World.ownsRow_nil _ _ _ _, Nat.lt_of_le_of_lt (Nat.zero_le _) h.short⟩, h2⟩

theorem full_cut {g n c : Nat} {A : Option Addr} (w : World) : Calls Try.prog 53 #[.pointer (some ⟨g, 0, none⟩), .slice A n c] w fun e w' =>
    e = .returned (.func (.func 70) #[] #[.pointer (some ⟨w.heap.size + 1, 0, none⟩), .pointer (some ⟨w.heap.size, 0, none⟩)]) ∧
      (w.alloc (.cells #[.pointer (some ⟨g, 0, none⟩)] 44)).alloc (.cells #[.slice A n c] 23) = w' := by
  go_enter Try.func53, Try.ntmps53
  go_wp2_with (fail)
  go_ret
  exact ⟨rfl, rfl⟩
end Go.Proofs.Ytlcpbkbojjpfaaa
