/-
  The document's answer to book, in memory; its New, at, Of.
-/
import Derived.Test.YtlldcogkcjnejaaBkHead
namespace Go.Proofs.Ytlldcogkcjnejaa
open Go.RowKit Go.Shelf Go.Maps Go.Sort
set_option linter.unusedVariables false
set_option linter.unusedSimpArgs false

/-- The answer's book: the block of its one cell; its list may lie anywhere else. -/
structure RbAt (w : World) (q : Nat) (A : Option Addr) (c : Nat) (l : List Us) : Prop where
  box : Boxed w q 54 (.slice A l.length c)
  row : Uss w A l.length c l
  apart : ∀ ad, A = some ad → ad.block ≠ q
theorem RbAt.grow {w w' : World} {q c : Nat} {A : Option Addr} {l : List Us} (h : RbAt w q A c l) (hg : Grows w w') : RbAt w' q A c l := ⟨(hg.block _ h.box.lt).trans h.box, h.row.grow hg, h.apart⟩
theorem RbAt.off {w w' : World} {q c : Nat} {A : Option Addr} {l : List Us} {own : Nat → Prop} (h : RbAt w q A c l) (hs : Spares own w w') (h1 : ¬ own q) (h2 : ∀ ad, A = some ad → ¬ own ad.block) : RbAt w' q A c l := by
  refine ⟨(hs.same _ h.box.lt h1).trans h.box, ⟨h.row.len, h.row.cap, h.row.bare, h.row.row.len, fun j v hj => ?_⟩, h.apart⟩
  obtain ⟨ad, e1, e2, e3⟩ := h.row.row.spot j v hj
  refine ⟨ad, e1, Nat.lt_of_lt_of_le e2 hs.size, ?_⟩
  have hb := hs.same _ e2 (h2 ad e1)
  unfold World.cell? at e3 ⊢
  rw [add_block] at *
  rw [hb]
  exact e3
theorem rnew_any (w : World) : Calls Try.prog 11 #[] w fun e w' => ∃ q, e = .returned (.pointer (some ⟨q, 0, none⟩)) ∧ RbAt w' q none 0 [] ∧ Grows w w' ∧ w.heap.size ≤ q := by
  go_enter Try.func11, Try.ntmps11
  go_wp2_with (fail)
  go_ret
  exact ⟨w.heap.size, rfl, ⟨Boxed.new _ _ _, Rs.nil _, fun ad h => by cases h⟩, grows_alloc _ _, Nat.le_refl _⟩
set_option maxRecDepth 100000 in
set_option maxHeartbeats 4000000 in
theorem at_some {q c : Nat} {A : Option Addr} {l : List Us} {w : World} (h : RbAt w q A c l) (hn : l.length ≤ 1000000) (hr : RiseU l) {k : Int} {j : Nat} {x : Us} (hj : l[j]? = some x) (hx : x.seg = k) :
    Calls Try.prog 28 #[.pointer (some ⟨q, 0, none⟩), .int .i64 k] w fun e w' => e = .returned (.int .i64 (j : Int)) ∧ Grows w w' := by
  have hjl := (List.getElem?_eq_some_iff.1 hj).1
  obtain ⟨n, hl⟩ : ∃ n, l.length = n := ⟨_, rfl⟩
  have hb := h.box
  have hrow := h.row
  rw [hl] at hb hrow hn hjl
  have HX := Lib.hid (And.intro hb (And.intro hrow (And.intro hj (And.intro hx (And.intro hr hl)))))
  clear h hb hrow hj hx hr hl
  go_enter Try.func28, Try.ntmps28
  go_wp2_with (fail)
  go_loopw [5] (fun vi wr => ∃ (i : Nat), i ≤ j ∧ vi = .int .i64 (i : Int) ∧ Hid (Grows w wr)) (fun vi _ => n - (intOf vi).toNat)
  case atStart => exact ⟨0, Nat.zero_le _, rfl, Lib.hid (Grows.refl _)⟩
  case round =>
    obtain ⟨i, hi, rfl, HG⟩ := hrel
    obtain ⟨ad, y, hA, hy, hbl, hcy⟩ := Uss.at (HX.out.2.1.grow HG.out) (show i < n by omega)
    subst hA
    obtain ⟨c0, c1, c2⟩ := hcy wr (Grows.refl _)
    have hbw : Boxed wr q 54 (.slice (some ad) n c) := (HG.out.block _ HX.out.1.lt).trans HX.out.1
    have d0 := hbw.cell
    have k0 : (0 : Int) ≤ (i : Int) := by omega
    have k1 : (i : Int) < (n : Int) := by omega
    by_cases hij : i = j
    · subst hij
      have hyx : y = x := by have := HX.out.2.2.1; rw [hy] at this; exact Option.some.inj this
      have hk : (y.seg == k) = true := by rw [hyx, HX.out.2.2.2.1]; simp
      clear hbl hcy hbw hy hyx
      go_wp2_with (fail)
      go_ret
      exact ⟨rfl, HG.out⟩
    · have hk : (y.seg == k) = false := by
        rw [beq_eq_false_iff_ne]
        intro e
        have e2 := HX.out.2.2.2.1
        have h1 := List.pairwise_iff_getElem.1 HX.out.2.2.2.2.1 i j (List.getElem?_eq_some_iff.1 hy).1 (List.getElem?_eq_some_iff.1 HX.out.2.2.1).1 (by omega)
        rw [(List.getElem?_eq_some_iff.1 hy).2, (List.getElem?_eq_some_iff.1 HX.out.2.2.1).2] at h1
        omega
      have hij2 : i + 1 ≤ j := by omega
      clear hbl hcy hbw hy
      go_wp2_with (fail)
      go_roundw
      case rel => exact ⟨i + 1, hij2, by go_num, HG⟩
      case measure => simp [intOf]; omega
set_option maxRecDepth 100000 in
set_option maxHeartbeats 4000000 in
theorem at_none {q c : Nat} {A : Option Addr} {l : List Us} {w : World} (h : RbAt w q A c l) (hn : l.length ≤ 1000000) {k : Int} (hf : ufind k l = none) :
    Calls Try.prog 28 #[.pointer (some ⟨q, 0, none⟩), .int .i64 k] w fun e w' => e = .returned (.int .i64 (-1)) ∧ Grows w w' := by
  obtain ⟨n, hl⟩ : ∃ n, l.length = n := ⟨_, rfl⟩
  have hb := h.box
  have hrow := h.row
  rw [hl] at hb hrow hn
  have HX := Lib.hid (And.intro hb (And.intro hrow (ufind_none.1 hf)))
  clear h hb hrow hf hl
  go_enter Try.func28, Try.ntmps28
  go_wp2_with (fail)
  go_loopw [5] (fun vi wr => ∃ (i : Nat), i ≤ n ∧ vi = .int .i64 (i : Int) ∧ Hid (Grows w wr)) (fun vi _ => n - (intOf vi).toNat)
  case atStart => exact ⟨0, Nat.zero_le _, rfl, Lib.hid (Grows.refl _)⟩
  case round =>
    obtain ⟨i, hi, rfl, HG⟩ := hrel
    have hbw : Boxed wr q 54 (.slice A n c) := (HG.out.block _ HX.out.1.lt).trans HX.out.1
    have d0 := hbw.cell
    by_cases hlt : i < n
    · obtain ⟨ad, y, hA, hy, hbl, hcy⟩ := Uss.at (HX.out.2.1.grow HG.out) hlt
      subst hA
      obtain ⟨c0, c1, c2⟩ := hcy wr (Grows.refl _)
      have k0 : (0 : Int) ≤ (i : Int) := by omega
      have k1 : (i : Int) < (n : Int) := by omega
      have hk : (y.seg == k) = false := by rw [beq_eq_false_iff_ne]; exact HX.out.2.2 y (List.mem_of_getElem? hy)
      clear hbl hcy hbw hy
      go_wp2_with (fail)
      go_roundw
      case rel => exact ⟨i + 1, by omega, by go_num, HG⟩
      case measure => simp [intOf]; omega
    · obtain rfl : i = n := by omega
      clear hbw
      go_wp2_with (fail)
      go_ret
      exact ⟨rfl, HG.out⟩
end Go.Proofs.Ytlldcogkcjnejaa
