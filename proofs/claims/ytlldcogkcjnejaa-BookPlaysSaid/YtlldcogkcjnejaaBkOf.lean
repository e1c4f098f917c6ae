/-
  book's Of, Drop, Kill.
-/
import Derived.Test.YtlldcogkcjnejaaBkNew
namespace Go.Proofs.Ytlldcogkcjnejaa
open Go.RowKit Go.Maps Go.Shelf
set_option linter.unusedVariables false
set_option linter.unusedSimpArgs false

set_option maxRecDepth 100000 in
set_option maxHeartbeats 1000000 in
theorem of_use {p b nn : Nat} {l : List Us} {w : World} (h : BkAt w p b nn l) {k : Int} (h1 : -9223372036854775808 ≤ k) (h2 : k ≤ 9223372036854775807) :
    Calls Try.prog 18 #[.pointer (some ⟨p, 0, none⟩), .int .i64 k] w fun e w' => e = .returned (.tuple #[usV (useOf k l), .bool (hasU k l)]) ∧ Grows w w' := by
  have h0 := h.grow (grows_alloc w (.cells #[.int .i64 0, .int .i64 0, .int .i64 0] 34))
  have hl1 := (look_use h0.map (keyIntU h1 h2)).1
  have hc1 := h0.box.cell
  obtain ⟨hb, hhb⟩ : ∃ x, hasU k l = x := ⟨_, rfl⟩
  obtain ⟨⟨s0, a0, v0⟩, hu⟩ : ∃ u, useOf k l = u := ⟨_, rfl⟩
  rw [hhb, hu] at hl1 ⊢
  clear h h0 hhb hu
  unfold usV at hl1 ⊢
  dsimp only at hl1 ⊢
  go_enter Try.func18, Try.ntmps18
  go_wp2_with (fail)
  refine bodyPost_ret (results_use2 rfl _ _ w.heap.size 34 (.int .i64 s0) (.int .i64 a0) (.int .i64 v0) (.bool hb) rfl rfl ((grows_alloc _ _).whole (Whole.made _ _ _))) rfl ?_
  exact ⟨rfl, Grows.trans (grows_alloc _ _) (grows_alloc _ _)⟩

/-- What a call that writes to the map leaves. -/
def BkTo0 (w : World) (p b nn : Nat) (l' : List Us) (r : Bool) (e : Ending) (w' : World) : Prop := e = .returned (.bool r) ∧ BkAt w' p b (nn + 1) l' ∧ Spares (fun k => k = b) w w'
/-- .. of which nothing is left if it says no. -/
def BkTo (w : World) (p b nn : Nat) (l' : List Us) (r : Bool) (e : Ending) (w' : World) : Prop := BkTo0 w p b nn l' r e w' ∧ (r = false → Grows w w')
theorem turned_spares {w w' : World} {b : Nat} (h : w.mapTurned w' b) : Spares (fun k => k = b) w w' :=
  (Spares.refl _ w).grown h.grown (fun k hk => by cases hk; rfl)
set_option maxRecDepth 100000 in
set_option maxHeartbeats 1000000 in
theorem drop_use {p b nn : Nat} {l : List Us} {w : World} (h : BkAt w p b nn l) {k : Int} (h1 : -9223372036854775808 ≤ k) (h2 : k ≤ 9223372036854775807) :
    Calls Try.prog 14 #[.pointer (some ⟨p, 0, none⟩), .int .i64 k] w (BkTo0 w p b nn (dropU k l) (hasU k l)) := by
  have hkey := keyIntU h1 h2
  have hl1 := (look_use h.map hkey).1
  have hc1 := h.box.cell
  obtain ⟨hb, hhb⟩ : ∃ x, hasU k l = x := ⟨_, rfl⟩
  obtain ⟨⟨s0, a0, v0⟩, hu⟩ : ∃ u, useOf k l = u := ⟨_, rfl⟩
  rw [hhb, hu] at hl1
  rw [hhb]
  have hg1 := grows_alloc w (.cells #[.int .i64 s0, .int .i64 a0, .int .i64 v0] 34)
  have hB1 := h.grow hg1
  obtain ⟨W1, hW1⟩ : ∃ W1, w.alloc (.cells #[.int .i64 s0, .int .i64 a0, .int .i64 v0] 34) = W1 := ⟨_, rfl⟩
  rw [hW1] at hg1 hB1
  have hc2 := hB1.box.cell
  have hown := hB1.map
  have HX := Lib.hid (And.intro hg1 hB1)
  clear h hhb hu hg1 hB1
  unfold usV at hl1
  dsimp only at hl1
  go_enter Try.func14, Try.ntmps14
  go_wp2_with (first
    | rw [hW1]
    | (at_delete; refine wpList_delete_own _ rfl _ _ 50 3 rfl _ (int_keyed Try.underlying3) Try.underlying50 _ b nn _ rfl hown _ _ rfl hkey ?_; intro w2 hown2 hturn2))
  go_ret
  obtain ⟨hg1, hB1⟩ := HX.out
  have hs := (Spares.grows hg1).trans (turned_spares hturn2)
  refine ⟨rfl, BkAt.more ⟨((turned_spares hturn2).same p hB1.ltp hB1.apart).trans hB1.box, ?_, hB1.apart, hB1.ok.drop k⟩, hs⟩
  rw [del_encU] at hown2
  exact hown2
end Go.Proofs.Ytlldcogkcjnejaa
