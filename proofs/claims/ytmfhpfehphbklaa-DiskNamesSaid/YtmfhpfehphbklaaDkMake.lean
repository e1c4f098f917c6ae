/-
  A change is made: a function, with copies of what it was made of.
-/
import Derived.Test.YtmfhpfehphbklaaDkPend
import Derived.Test.YtmfhpfehphbklaaFactsTail
import Derived.Test.YtmfhpfehphbklaaWalkBits
import Derived.Test.YtmfhpfehphbklaaShelf
namespace Go.Proofs.Ytmfhpfehphbklaa
open Go.RowKit Go.Maps Go.WideMaps
set_option linter.unusedVariables false
set_option linter.unusedSimpArgs false

set_option maxRecDepth 100000 in
theorem clone_any (n : Nm) (w : World) (hn : n.length ≤ 1000000) : Calls Try.prog 82 #[.string ⟨n.toArray⟩] w fun e w' => e = .returned (.string ⟨n.toArray⟩) ∧ Grows w w' := by
  have HC := Lib.hid (stringslite_Clone ⟨n.toArray⟩ w (by rw [show (⟨n.toArray⟩ : ByteArray).size = n.length by simp [ByteArray.size]]; omega))
  clear hn
  go_enter Try.func82, Try.ntmps82
  go_wp2_with (fail)
  refine HC.out.mono ?_
  rintro e w' ⟨rfl, hb⟩
  have HB := Lib.hid hb
  clear hb
  go_wp2_with (fail)
  go_ret
  exact ⟨rfl, HB.out⟩

set_option maxHeartbeats 1000000 in
set_option maxRecDepth 100000 in
theorem made_any (n : Nm) (f : Nat) (w : World) (hn : n.length ≤ 1000000) : Calls Try.prog 52 #[.string ⟨n.toArray⟩, .pointer (some ⟨f, 0, none⟩)] w fun e w' =>
    ∃ a b, e = .returned (.func (.func 83) #[] #[ptrV b, ptrV a]) ∧ Whole w' a 9 #[strB n] ∧ Whole w' b 91 #[ptrV f] ∧ w.heap.size ≤ a ∧ w.heap.size ≤ b ∧ Grows w w' := by
  have HC := Lib.hid (fun w => clone_any n w hn)
  clear hn
  go_enter Try.func52, Try.ntmps52
  have e0 : ∀ w', Grows ((w.alloc (.cells #[.string ⟨n.toArray⟩] 9)).alloc (.cells #[.pointer (some ⟨f, 0, none⟩)] 91)) w' → Whole w' w.heap.size 9 #[strB n] ∧ Whole w' (w.heap.size + 1) 91 #[ptrV f] := fun w' hg => by
    refine ⟨hg.whole ((Whole.made w _ _).alloc _), hg.whole ?_⟩
    have := Whole.made (w.alloc (.cells #[.string ⟨n.toArray⟩] 9)) 91 #[ptrV f]
    rwa [World.size_alloc] at this
  have HE := Lib.hid e0
  clear e0
  go_wp2_with (fail)
  refine (HC.out _).mono ?_
  rintro e w' ⟨rfl, hb⟩
  have HB := Lib.hid hb
  have f0 := (HE.out _ hb).1.free 0
  have c0 : w'.cell? ⟨w.heap.size, 0, none⟩ = some (.string ⟨n.toArray⟩) := (HE.out _ hb).1.cell 0
  clear hb
  go_wp2_with (fail)
  go_ret
  refine ⟨_, _, rfl, (HE.out _ HB.out).1.put 0 _, (HE.out _ HB.out).2.elsewhere (by simp) _, Nat.le_refl _, Nat.le_succ _, ?_⟩
  have g1 : Grows w ((w.alloc (.cells #[.string ⟨n.toArray⟩] 9)).alloc (.cells #[.pointer (some ⟨f, 0, none⟩)] 91)) := (grows_alloc w _).trans (grows_alloc _ _)
  exact (g1.trans HB.out).setCell (p := ⟨w.heap.size, 0, none⟩) (Nat.le_refl _) _

set_option maxHeartbeats 1000000 in
set_option maxRecDepth 100000 in
theorem taken_any (n : Nm) (w : World) (hn : n.length ≤ 1000000) : Calls Try.prog 66 #[.string ⟨n.toArray⟩] w fun e w' =>
    ∃ a, e = .returned (.func (.func 89) #[] #[ptrV a]) ∧ Whole w' a 9 #[strB n] ∧ w.heap.size ≤ a ∧ Grows w w' := by
  have HC := Lib.hid (fun w => clone_any n w hn)
  clear hn
  go_enter Try.func66, Try.ntmps66
  have e0 : ∀ w', Grows (w.alloc (.cells #[.string ⟨n.toArray⟩] 9)) w' → Whole w' w.heap.size 9 #[strB n] := fun w' hg => hg.whole (Whole.made w _ _)
  have HE := Lib.hid e0
  clear e0
  go_wp2_with (fail)
  refine (HC.out _).mono ?_
  rintro e w' ⟨rfl, hb⟩
  have HB := Lib.hid hb
  have f0 := (HE.out _ hb).free 0
  have c0 : w'.cell? ⟨w.heap.size, 0, none⟩ = some (.string ⟨n.toArray⟩) := (HE.out _ hb).cell 0
  clear hb
  go_wp2_with (fail)
  go_ret
  exact ⟨_, rfl, (HE.out _ HB.out).put 0 _, Nat.le_refl _, ((grows_alloc w _).trans HB.out).setCell (p := ⟨w.heap.size, 0, none⟩) (Nat.le_refl _) _⟩

set_option maxHeartbeats 1000000 in
set_option maxRecDepth 100000 in
theorem moved_any (n to : Nm) (w : World) (hn : n.length ≤ 1000000) (ht : to.length ≤ 1000000) : Calls Try.prog 64 #[.string ⟨n.toArray⟩, .string ⟨to.toArray⟩] w fun e w' =>
    ∃ a b, e = .returned (.func (.func 88) #[] #[ptrV a, ptrV b]) ∧ Whole w' a 9 #[strB n] ∧ Whole w' b 9 #[strB to] ∧ w.heap.size ≤ a ∧ w.heap.size ≤ b ∧ Grows w w' := by
  have HC := Lib.hid (fun w => clone_any n w hn)
  have HC2 := Lib.hid (fun w => clone_any to w ht)
  clear hn ht
  go_enter Try.func64, Try.ntmps64
  have e0 : ∀ w', Grows ((w.alloc (.cells #[.string ⟨n.toArray⟩] 9)).alloc (.cells #[.string ⟨to.toArray⟩] 9)) w' → Whole w' w.heap.size 9 #[strB n] ∧ Whole w' (w.heap.size + 1) 9 #[strB to] := fun w' hg => by
    refine ⟨hg.whole ((Whole.made w _ _).alloc _), hg.whole ?_⟩
    have := Whole.made (w.alloc (.cells #[.string ⟨n.toArray⟩] 9)) 9 #[strB to]
    rwa [World.size_alloc] at this
  have HE := Lib.hid e0
  clear e0
  go_wp2_with (fail)
  refine wp_region_facts_tail (E := Grows) 4 [valFact (.string ⟨n.toArray⟩), valFact (.string ⟨n.toArray⟩), valFact (.string ⟨to.toArray⟩), valFact (.string ⟨to.toArray⟩)] mixed (by kernel_rfl) (fun _ _ _ => Grows.trans) (grows_drew _) ?_
  simp only [List.take_succ_cons, List.take_zero, List.drop_succ_cons, List.drop_zero]
  refine f_val (.string ⟨n.toArray⟩) (by rfl) ?_ ?_
  · intro w' hC; have c0 : w'.cell? ⟨w.heap.size, 0, none⟩ = some (.string ⟨n.toArray⟩) := (HE.out _ hC).1.cell 0; clear hC; go_simp
  simp only [Act.put, List.setIfInBounds_toArray, List.set_cons_zero, List.set_cons_succ]
  refine f_call 82 #[.string ⟨n.toArray⟩] (.string ⟨n.toArray⟩) (by rfl) (by intro w' hC; clear hC; go_simp) ?_ ?_
  · exact fun w' _ _ => HC.out w'
  simp only [Act.put, List.setIfInBounds_toArray, List.set_cons_zero, List.set_cons_succ]
  refine f_val (.string ⟨to.toArray⟩) (by rfl) ?_ ?_
  · intro w' hC; have c0 : w'.cell? ⟨w.heap.size + 1, 0, none⟩ = some (.string ⟨to.toArray⟩) := (HE.out _ hC).2.cell 0; clear hC; go_simp
  simp only [Act.put, List.setIfInBounds_toArray, List.set_cons_zero, List.set_cons_succ]
  refine f_call 82 #[.string ⟨to.toArray⟩] (.string ⟨to.toArray⟩) (by rfl) (by intro w' hC; clear hC; go_simp) ?_ ?_
  · exact fun w' _ _ => HC2.out w'
  simp only [Act.put, List.setIfInBounds_toArray, List.set_cons_zero, List.set_cons_succ]
  refine wpF_end ?_
  intro w2 hC hks
  have HCw2 := Lib.hid hC
  clear hC hks
  have f0 := (HE.out _ HCw2.out).1.free 0
  have f1 := (HE.out _ HCw2.out).2.free 0
  have c0 : w2.cell? ⟨w.heap.size, 0, none⟩ = some (.string ⟨n.toArray⟩) := (HE.out _ HCw2.out).1.cell 0
  have c1 : w2.cell? ⟨w.heap.size + 1, 0, none⟩ = some (.string ⟨to.toArray⟩) := (HE.out _ HCw2.out).2.cell 0
  go_wp2_with (fail)
  go_ret
  have g1 : Grows w ((w.alloc (.cells #[.string ⟨n.toArray⟩] 9)).alloc (.cells #[.string ⟨to.toArray⟩] 9)) := (grows_alloc w _).trans (grows_alloc _ _)
  refine ⟨_, _, rfl, ((HE.out _ HCw2.out).1.put 0 _).elsewhere (by simp) _, ((HE.out _ HCw2.out).2.elsewhere (by simp) _).put 0 _, Nat.le_refl _, Nat.le_succ _, ?_⟩
  exact ((g1.trans HCw2.out).setCell (p := ⟨w.heap.size, 0, none⟩) (Nat.le_refl _) _).setCell (p := ⟨w.heap.size + 1, 0, none⟩) (Nat.le_succ _) _
end Go.Proofs.Ytmfhpfehphbklaa

