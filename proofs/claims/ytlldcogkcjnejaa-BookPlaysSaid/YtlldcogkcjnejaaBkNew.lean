/-
  book's New, Of, Drop.
-/
import Derived.Test.YtlldcogkcjnejaaBkMem
namespace Go.Proofs.Ytlldcogkcjnejaa
open Go.RowKit Go.Maps Go.Shelf
set_option linter.unusedVariables false
set_option linter.unusedSimpArgs false

theorem new_any (w : World) : Calls Try.prog 10 #[] w fun e w' => ∃ p b, e = .returned (.pointer (some ⟨p, 0, none⟩)) ∧ BkAt w' p b 0 [] ∧ Grows w w' ∧ w.heap.size ≤ p ∧ w.heap.size ≤ b := by
  have hmade := World.ownsMap_made w Try.prog 3 (usR (H := Unit))
  have hg0 := grows_alloc w (.map #[] 0)
  obtain ⟨W0, hW0⟩ : ∃ y, w.alloc (.map #[] 0) = y := ⟨_, rfl⟩
  have hs0 : W0.heap.size = w.heap.size + 1 := by rw [← hW0, World.size_alloc]
  rw [hW0] at hmade hg0
  have HM0 := Lib.hid (And.intro hmade (And.intro hg0 hs0))
  have hmk : (Instr.makeMap 50 none).run Try.prog w = .ok (.map (some w.heap.size)) W0 := by
    rw [← hW0]
    kernel_rfl
  clear hmade hg0 hW0 hs0
  go_enter Try.func10, Try.ntmps10
  go_wp2_with (fail)
  go_ret
  obtain ⟨h1, h2, h3⟩ := HM0.out
  have h4 := grows_alloc W0 (.cells #[.map (some w.heap.size)] 52)
  refine ⟨W0.heap.size, w.heap.size, rfl, ⟨Boxed.new _ _ _, ?_, by omega, UOk.nil⟩, Grows.trans h2 h4, by omega, Nat.le_refl _⟩
  exact own_sameU h1 (h4.block _ (by omega))
end Go.Proofs.Ytlldcogkcjnejaa
