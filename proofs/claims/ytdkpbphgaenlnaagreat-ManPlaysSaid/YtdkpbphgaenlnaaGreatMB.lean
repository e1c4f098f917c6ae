/-
  Texts that the statements' proofs lean on, one behind the other.
-/
import Derived.Test.YtdkpbphgaenlnaaGreatMA
import Derived.Test.YtdkpbphgaenlnaaGreatFactsTail
import Derived.Test.YtdkpbphgaenlnaaGreatWalkBits
import Derived.Test.YtdkpbphgaenlnaaGreatShelf
import Derived.Test.YtdkpbphgaenlnaaGreatMP
import Derived.Laws.CopyOwn
/-
  A change is made: a function, with copies of what it was made of.
-/
namespace Go.Proofs.YtdkpbphgaenlnaaGreat
open Go.RowKit Go.Maps Go.WideMaps
set_option linter.unusedVariables false
set_option linter.unusedSimpArgs false

set_option maxRecDepth 100000 in
theorem clone_any (n : Nm) (w : World) (hn : n.length ≤ 1000000) : Calls Tryz.prog 114 #[.string ⟨n.toArray⟩] w fun e w' => e = .returned (.string ⟨n.toArray⟩) ∧ Grows w w' := by
  have HC := Lib.hid (stringslite_Clone ⟨n.toArray⟩ w (by rw [show (⟨n.toArray⟩ : ByteArray).size = n.length by simp [ByteArray.size]]; omega))
  clear hn
  go_enter Tryz.func114, Tryz.ntmps114
  go_wp2_with (fail)
  refine HC.out.mono ?_
  rintro e w' ⟨rfl, hb⟩
  have HB := Lib.hid hb
  clear hb
  go_wp2_with (fail)
  go_ret
  exact ⟨rfl, HB.out⟩

set_option maxHeartbeats 1000000 in
set_option maxRecDepth 100000 in
theorem made_any (n : Nm) (f : Nat) (w : World) (hn : n.length ≤ 1000000) : Calls Tryz.prog 70 #[.string ⟨n.toArray⟩, .pointer (some ⟨f, 0, none⟩)] w fun e w' =>
    ∃ a b, e = .returned (.func (.func 115) #[] #[ptrV b, ptrV a]) ∧ Whole w' a 9 #[strB n] ∧ Whole w' b 89 #[ptrV f] ∧ w.heap.size ≤ a ∧ w.heap.size ≤ b ∧ Grows w w' := by
  have HC := Lib.hid (fun w => clone_any n w hn)
  clear hn
  go_enter Tryz.func70, Tryz.ntmps70
  have e0 : ∀ w', Grows ((w.alloc (.cells #[.string ⟨n.toArray⟩] 9)).alloc (.cells #[.pointer (some ⟨f, 0, none⟩)] 89)) w' → Whole w' w.heap.size 9 #[strB n] ∧ Whole w' (w.heap.size + 1) 89 #[ptrV f] := fun w' hg => by
    refine ⟨hg.whole ((Whole.made w _ _).alloc _), hg.whole ?_⟩
    have := Whole.made (w.alloc (.cells #[.string ⟨n.toArray⟩] 9)) 89 #[ptrV f]
    rwa [World.size_alloc] at this
  have HE := Lib.hid e0
  clear e0
  go_wp2_with (fail)
  refine (HC.out _).mono ?_
  rintro e w' ⟨rfl, hb⟩
  have HB := Lib.hid hb
  have f0 := (HE.out _ hb).1.free 0
  have c0 : w'.cell? ⟨w.heap.size, 0, none⟩ = some (.string ⟨n.toArray⟩) := (HE.out _ hb).1.cell 0
  clear hb
  go_wp2_with (fail)
  go_ret
  refine ⟨_, _, rfl, (HE.out _ HB.out).1.put 0 _, (HE.out _ HB.out).2.elsewhere (by simp) _, Nat.le_refl _, Nat.le_succ _, ?_⟩
  have g1 : Grows w ((w.alloc (.cells #[.string ⟨n.toArray⟩] 9)).alloc (.cells #[.pointer (some ⟨f, 0, none⟩)] 89)) := (grows_alloc w _).trans (grows_alloc _ _)
  exact (g1.trans HB.out).setCell (p := ⟨w.heap.size, 0, none⟩) (Nat.le_refl _) _

set_option maxHeartbeats 1000000 in
set_option maxRecDepth 100000 in
theorem taken_any (n : Nm) (w : World) (hn : n.length ≤ 1000000) : Calls Tryz.prog 143 #[.string ⟨n.toArray⟩] w fun e w' =>
    ∃ a, e = .returned (.func (.func 164) #[] #[ptrV a]) ∧ Whole w' a 9 #[strB n] ∧ w.heap.size ≤ a ∧ Grows w w' := by
  have HC := Lib.hid (fun w => clone_any n w hn)
  clear hn
  go_enter Tryz.func143, Tryz.ntmps143
  have e0 : ∀ w', Grows (w.alloc (.cells #[.string ⟨n.toArray⟩] 9)) w' → Whole w' w.heap.size 9 #[strB n] := fun w' hg => hg.whole (Whole.made w _ _)
  have HE := Lib.hid e0
  clear e0
  go_wp2_with (fail)
  refine (HC.out _).mono ?_
  rintro e w' ⟨rfl, hb⟩
  have HB := Lib.hid hb
  have f0 := (HE.out _ hb).free 0
  have c0 : w'.cell? ⟨w.heap.size, 0, none⟩ = some (.string ⟨n.toArray⟩) := (HE.out _ hb).cell 0
  clear hb
  go_wp2_with (fail)
  go_ret
  exact ⟨_, rfl, (HE.out _ HB.out).put 0 _, Nat.le_refl _, ((grows_alloc w _).trans HB.out).setCell (p := ⟨w.heap.size, 0, none⟩) (Nat.le_refl _) _⟩

set_option maxHeartbeats 1000000 in
set_option maxRecDepth 100000 in
theorem moved_any (n to : Nm) (w : World) (hn : n.length ≤ 1000000) (ht : to.length ≤ 1000000) : Calls Tryz.prog 106 #[.string ⟨n.toArray⟩, .string ⟨to.toArray⟩] w fun e w' =>
    ∃ a b, e = .returned (.func (.func 144) #[] #[ptrV a, ptrV b]) ∧ Whole w' a 9 #[strB n] ∧ Whole w' b 9 #[strB to] ∧ w.heap.size ≤ a ∧ w.heap.size ≤ b ∧ Grows w w' := by
  have HC := Lib.hid (fun w => clone_any n w hn)
  have HC2 := Lib.hid (fun w => clone_any to w ht)
  clear hn ht
  go_enter Tryz.func106, Tryz.ntmps106
  have e0 : ∀ w', Grows ((w.alloc (.cells #[.string ⟨n.toArray⟩] 9)).alloc (.cells #[.string ⟨to.toArray⟩] 9)) w' → Whole w' w.heap.size 9 #[strB n] ∧ Whole w' (w.heap.size + 1) 9 #[strB to] := fun w' hg => by
    refine ⟨hg.whole ((Whole.made w _ _).alloc _), hg.whole ?_⟩
    have := Whole.made (w.alloc (.cells #[.string ⟨n.toArray⟩] 9)) 9 #[strB to]
    rwa [World.size_alloc] at this
  have HE := Lib.hid e0
  clear e0
  go_wp2_with (fail)
  refine wp_region_facts_tail (E := Grows) 4 [valFact (.string ⟨n.toArray⟩), valFact (.string ⟨n.toArray⟩), valFact (.string ⟨to.toArray⟩), valFact (.string ⟨to.toArray⟩)] mixed (by kernel_rfl) (fun _ _ _ => Grows.trans) (grows_drew _) ?_
  simp only [List.take_succ_cons, List.take_zero, List.drop_succ_cons, List.drop_zero]
  refine f_val (.string ⟨n.toArray⟩) (by rfl) ?_ ?_
  · intro w' hC; have c0 : w'.cell? ⟨w.heap.size, 0, none⟩ = some (.string ⟨n.toArray⟩) := (HE.out _ hC).1.cell 0; clear hC; go_simp
  simp only [Act.put, List.setIfInBounds_toArray, List.set_cons_zero, List.set_cons_succ]
  refine f_call 114 #[.string ⟨n.toArray⟩] (.string ⟨n.toArray⟩) (by rfl) (by intro w' hC; clear hC; go_simp) ?_ ?_
  · exact fun w' _ _ => HC.out w'
  simp only [Act.put, List.setIfInBounds_toArray, List.set_cons_zero, List.set_cons_succ]
  refine f_val (.string ⟨to.toArray⟩) (by rfl) ?_ ?_
  · intro w' hC; have c0 : w'.cell? ⟨w.heap.size + 1, 0, none⟩ = some (.string ⟨to.toArray⟩) := (HE.out _ hC).2.cell 0; clear hC; go_simp
  simp only [Act.put, List.setIfInBounds_toArray, List.set_cons_zero, List.set_cons_succ]
  refine f_call 114 #[.string ⟨to.toArray⟩] (.string ⟨to.toArray⟩) (by rfl) (by intro w' hC; clear hC; go_simp) ?_ ?_
  · exact fun w' _ _ => HC2.out w'
  simp only [Act.put, List.setIfInBounds_toArray, List.set_cons_zero, List.set_cons_succ]
  refine wpF_end ?_
  intro w2 hC hks
  have HCw2 := Lib.hid hC
  clear hC hks
  have f0 := (HE.out _ HCw2.out).1.free 0
  have f1 := (HE.out _ HCw2.out).2.free 0
  have c0 : w2.cell? ⟨w.heap.size, 0, none⟩ = some (.string ⟨n.toArray⟩) := (HE.out _ HCw2.out).1.cell 0
  have c1 : w2.cell? ⟨w.heap.size + 1, 0, none⟩ = some (.string ⟨to.toArray⟩) := (HE.out _ HCw2.out).2.cell 0
  go_wp2_with (fail)
  go_ret
  have g1 : Grows w ((w.alloc (.cells #[.string ⟨n.toArray⟩] 9)).alloc (.cells #[.string ⟨to.toArray⟩] 9)) := (grows_alloc w _).trans (grows_alloc _ _)
  refine ⟨_, _, rfl, ((HE.out _ HCw2.out).1.put 0 _).elsewhere (by simp) _, ((HE.out _ HCw2.out).2.elsewhere (by simp) _).put 0 _, Nat.le_refl _, Nat.le_succ _, ?_⟩
  exact ((g1.trans HCw2.out).setCell (p := ⟨w.heap.size, 0, none⟩) (Nat.le_refl _) _).setCell (p := ⟨w.heap.size + 1, 0, none⟩) (Nat.le_succ _) _
end Go.Proofs.YtdkpbphgaenlnaaGreat


/-
  A thing is done, if nothing goes wrong with it.
-/
namespace Go.Proofs.YtdkpbphgaenlnaaGreat
open Go.RowKit Go.Maps Go.WideMaps
set_option linter.unusedVariables false
set_option linter.unusedSimpArgs false
attribute [local irreducible] Go.wpQuiet

theorem Grows.cellq {w w' : World} {g t i : Nat} {cs : Array Value} (hg : Grows w w') (h : Whole w g t cs) : w'.cell? ⟨g, i, none⟩ = cs[i]? := (hg.whole h).cell i

section
variable {w : World} {d : Nat} {own : Nat → Prop} {G : Geo} {m : Dk}
/-- One thing sooner, in memory. -/
theorem soon_any (w : World) (h : DkAt w d own G m) (hx : -1 ≤ m.cut ∧ m.cut ≤ 9223372036854775807) (hy : -1 ≤ m.fail ∧ m.fail ≤ 9223372036854775807) :
    Calls Tryz.prog 113 #[.pointer (some ⟨d, 8, none⟩)] w fun e w1 => e = .returned (.tuple #[]) ∧ DkAt w1 d own G { m with cut := sooner m.cut } ∧ Spares (fun k => k = d) w w1 := by
  refine (sooner_any w (h.cell 8) (h.top.free 8) (by omega)).mono ?_
  rintro e w1 ⟨rfl, hw⟩
  by_cases hy : 0 < m.cut
  · rw [if_pos hy] at hw
    subst hw
    exact ⟨rfl, h.set 8 _ (by simp [dCells, sooner, hy]) rfl rfl rfl rfl rfl, (Spares.refl (fun k => k = d) w).setCell (p := ⟨d, 8, none⟩) rfl _⟩
  · rw [if_neg hy] at hw
    subst hw
    refine ⟨rfl, ?_, Spares.refl _ _⟩
    have : ({ m with cut := sooner m.cut } : Dk) = m := by simp [sooner, hy]
    rw [this]
    exact h
theorem soon_any2 (w : World) (h : DkAt w d own G m) (hy : -1 ≤ m.fail ∧ m.fail ≤ 9223372036854775807) :
    Calls Tryz.prog 113 #[.pointer (some ⟨d, 7, none⟩)] w fun e w1 => e = .returned (.tuple #[]) ∧ DkAt w1 d own G { m with fail := sooner m.fail } ∧ Spares (fun k => k = d) w w1 := by
  refine (sooner_any w (h.cell 7) (h.top.free 7) (by omega)).mono ?_
  rintro e w1 ⟨rfl, hw⟩
  by_cases hy : 0 < m.fail
  · rw [if_pos hy] at hw
    subst hw
    exact ⟨rfl, h.set 7 _ (by simp [dCells, sooner, hy]) rfl rfl rfl rfl rfl, (Spares.refl (fun k => k = d) w).setCell (p := ⟨d, 7, none⟩) rfl _⟩
  · rw [if_neg hy] at hw
    subst hw
    refine ⟨rfl, ?_, Spares.refl _ _⟩
    have : ({ m with fail := sooner m.fail } : Dk) = m := by simp [sooner, hy]
    rw [this]
    exact h

/-- What stands behind a call: the disk, and an answer. -/
def Did (w : World) (d : Nat) (own : Nat → Prop) (r : Dk × Int) (e : Ending) (w' : World) : Prop := e = .returned (.int .i64 r.2) ∧ DkTo w d own w' r.1
theorem DkTo.of {w w' : World} {own' : Nat → Prop} {G' : Geo} {m' : Dk} (h : DkAt w' d own' G' m') (hs : Spares (fun k => k = d ∨ own k) w w') (ho : ∀ k, own' k → own k ∨ w.heap.size ≤ k) : DkTo w d own w' m' := ⟨own', G', h, hs, ho⟩
theorem DkTo.same {w w' : World} {m' : Dk} (h : DkAt w' d own G m') (hs : Spares (fun k => k = d) w w') : DkTo w d own w' m' :=
  ⟨own, G, h, hs.wider fun k _ e => .inl e, fun k hk => .inl hk⟩
theorem DkTo.behind {w w1 w' : World} {m' : Dk} (hs : Spares (fun k => k = d) w w1) (h : DkTo w1 d own w' m') : DkTo w d own w' m' := by
  obtain ⟨own', G', h1, h2, h3⟩ := h
  exact ⟨own', G', h1, (hs.wider fun k _ e => .inl e).trans h2, fun k hk => (h3 k hk).imp id fun h => Nat.le_trans hs.size h⟩
theorem DkTo.retop {w w' w'' : World} {m1 m2 : Dk} (h : DkTo w d own w' m1) (h2 : ∀ own' G', DkAt w' d own' G' m1 → DkAt w'' d own' G' m2) (hs : Spares (fun k => k = d) w' w'') : DkTo w d own w'' m2 := by
  obtain ⟨own', G', h1, h3, h4⟩ := h
  exact ⟨own', G', h2 _ _ h1, h3.trans (hs.wider fun k _ e => .inl e), h4⟩

set_option maxHeartbeats 4000000 in
set_option maxRecDepth 100000 in
theorem thing_any (w : World) (h : DkAt w d own G m) (hx : -1 ≤ m.cut ∧ m.cut ≤ 9223372036854775807) (hy : -1 ≤ m.fail ∧ m.fail ≤ 9223372036854775807) (gf : Nat) (first caps : Array Value)
    (eg : ∀ args w, (callFunc gf args).run Tryz.prog w = .ok (.enter gf args) w) (does : Dk → Dk)
    (hdo : m.down = false → m.cut ≠ 0 → m.fail ≠ 0 → ∀ w1, DkAt w1 d own G m.sooner → Spares (fun k => k = d) w w1 → Calls Tryz.prog gf (first ++ caps) w1 fun e w2 => e = .returned (.tuple #[]) ∧ DkTo w1 d own w2 (does m.sooner)) :
    Calls Tryz.prog 67 #[.pointer (some ⟨d, 0, none⟩), .func (.func gf) first caps] w fun e w' => Did w d own (m.thing does) e w' := by
  have c9 : w.cell? ⟨d, 9, none⟩ = some (.bool m.down) := h.cell 9
  have H := Lib.hid h
  cases hd : m.down with
  | true =>
    rw [hd] at c9
    have e : m.thing does = (m, 82) := by unfold Dk.thing; rw [if_pos hd]
    rw [e]
    have HD := Lib.hid hd
    clear h hd hx hy hdo e
    go_enter Tryz.func67, Tryz.ntmps67
    go_wp2
    go_ret
    exact ⟨rfl, DkTo.same H.out (Spares.refl _ _)⟩
  | false =>
  rw [hd] at c9
  have HCL := Lib.hid (And.intro h.top hd)
  have HS := Lib.hid (And.intro hx hy)
  have HDO := Lib.hid (hdo hd)
  clear hx hy hdo h hd
  by_cases hc : m.cut = 0
  · have e : m.thing does = ({ m.sooner with cut := -1, down := true }, 82) := by unfold Dk.thing; rw [if_neg (by rw [HCL.out.2]; decide), if_pos hc]
    rw [e]
    clear e
    have HCF := Lib.hid (show ∀ w', Grows w w' → w'.cell? ⟨d, 8, none⟩ = some (.int .i64 0) ∧ w'.cell? ⟨d, 7, none⟩ = some (.int .i64 m.fail) from fun w' hg => ⟨by have := hg.cellq (i := 8) HCL.out.1; simp only [dCells, hc] at this; exact this, by have := hg.cellq (i := 7) HCL.out.1; exact this⟩)
    have HHC := Lib.hid hc
    skip
    skip
    skip
    skip
    skip
    clear hc 
    generalize hxf : m.fail = xf at HCF 
    generalize hxc : m.cut = xc at HCF 
    have HXF := Lib.hid (And.intro hxf hxc)
    clear hxf hxc
    go_enter Tryz.func67, Tryz.ntmps67
    go_wp2_with (fail)
    refine q_region mixed (by kernel_rfl) ?_
    iterate 12 (refine q_op' (v := ?_) (a' := ?_) (by rfl) ?_ ?_ ?_
                rotate_left 2
                · intro w' hC
                  obtain ⟨z0, z1⟩ := HCF.out w' hC
                  clear hC
                  go_simp
                  try with_reducible rfl
                · simp only [Act.put, List.setIfInBounds_toArray, List.set_cons_zero, List.set_cons_succ]
                  try rfl)
    refine wpQuiet_nil ?_
    intro w2 hC
    have HCw2 := Lib.hid hC
    clear hC
    have HW2 := Lib.hid (H.out.grow HCw2.out)
    clear HCF
    go_wp2_with (fail)
    refine (soon_any w2 HW2.out HS.out.1 HS.out.2).mono ?_
    rintro e w3 ⟨rfl, h3, s3⟩
    have H3 := Lib.hid h3
    have S3 := Lib.hid s3
    clear h3 s3
    go_wp2_with (fail)
    refine (soon_any2 w3 H3.out HS.out.2).mono ?_
    rintro e w4 ⟨rfl, h4, s4⟩
    have H4 := Lib.hid (show DkAt w4 d own G m.sooner from h4)
    have S4 := Lib.hid ((HCw2.out |> Spares.grows (own := fun k => k = d)).trans (S3.out.trans s4))
    clear h4 s4 S3 H3
    have c8 : w4.cell? ⟨d, 8, none⟩ = some (.int .i64 (sooner m.cut)) := H4.out.cell 8
    have f8 := H4.out.top.free 8
    have c9 : w4.cell? ⟨d, 9, none⟩ = some (.bool m.down) := H4.out.cell 9
    have f9 := H4.out.top.free 9
    go_wp2_with (fail)
    go_ret
    have h5 : DkAt (w4.setCell ⟨d, 8, none⟩ (.int .i64 (-1))) d own G { m.sooner with cut := -1 } := H4.out.set 8 _ rfl rfl rfl rfl rfl rfl
    have h6 : DkAt ((w4.setCell ⟨d, 8, none⟩ (.int .i64 (-1))).setCell ⟨d, 9, none⟩ (.bool true)) d own G { m.sooner with cut := -1, down := true } := h5.set 9 _ rfl rfl rfl rfl rfl rfl
    exact ⟨rfl, DkTo.same h6 ((S4.out.setCell (p := ⟨d, 8, none⟩) rfl _).setCell (p := ⟨d, 9, none⟩) rfl _)⟩
  by_cases hf : m.fail = 0
  · have e : m.thing does = ({ m.sooner with fail := -1 }, 81) := by unfold Dk.thing; rw [if_neg (by rw [HCL.out.2]; decide), if_neg hc, if_pos hf]
    rw [e]
    clear e
    have HCF := Lib.hid (show ∀ w', Grows w w' → w'.cell? ⟨d, 8, none⟩ = some (.int .i64 m.cut) ∧ w'.cell? ⟨d, 7, none⟩ = some (.int .i64 0) from fun w' hg => ⟨by have := hg.cellq (i := 8) HCL.out.1; exact this, by have := hg.cellq (i := 7) HCL.out.1; simp only [dCells, hf] at this; exact this⟩)
    have HHC := Lib.hid hc
    have d8 : (m.cut == 0) = false := by simpa using hc
    have d8' : decide (m.cut = 0) = false := by simpa using hc
    have HHF := Lib.hid hf
    skip
    skip
    clear hc hf
    generalize hxf : m.fail = xf at HCF 
    generalize hxc : m.cut = xc at HCF d8 d8'
    have HXF := Lib.hid (And.intro hxf hxc)
    clear hxf hxc
    go_enter Tryz.func67, Tryz.ntmps67
    go_wp2_with (fail)
    refine q_region mixed (by kernel_rfl) ?_
    iterate 12 (refine q_op' (v := ?_) (a' := ?_) (by rfl) ?_ ?_ ?_
                rotate_left 2
                · intro w' hC
                  obtain ⟨z0, z1⟩ := HCF.out w' hC
                  clear hC
                  go_simp
                  try with_reducible rfl
                · simp only [Act.put, List.setIfInBounds_toArray, List.set_cons_zero, List.set_cons_succ]
                  try rfl)
    refine wpQuiet_nil ?_
    intro w2 hC
    have HCw2 := Lib.hid hC
    clear hC
    have HW2 := Lib.hid (H.out.grow HCw2.out)
    clear HCF
    go_wp2_with (fail)
    refine (soon_any w2 HW2.out HS.out.1 HS.out.2).mono ?_
    rintro e w3 ⟨rfl, h3, s3⟩
    have H3 := Lib.hid h3
    have S3 := Lib.hid s3
    clear h3 s3
    go_wp2_with (fail)
    refine (soon_any2 w3 H3.out HS.out.2).mono ?_
    rintro e w4 ⟨rfl, h4, s4⟩
    have H4 := Lib.hid (show DkAt w4 d own G m.sooner from h4)
    have S4 := Lib.hid ((HCw2.out |> Spares.grows (own := fun k => k = d)).trans (S3.out.trans s4))
    clear h4 s4 S3 H3
    have c7 : w4.cell? ⟨d, 7, none⟩ = some (.int .i64 (sooner m.fail)) := H4.out.cell 7
    have f7 := H4.out.top.free 7
    go_wp2_with (fail)
    go_ret
    have h5 : DkAt (w4.setCell ⟨d, 7, none⟩ (.int .i64 (-1))) d own G { m.sooner with fail := -1 } := H4.out.set 7 _ rfl rfl rfl rfl rfl rfl
    exact ⟨rfl, DkTo.same h5 (S4.out.setCell (p := ⟨d, 7, none⟩) rfl _)⟩
  · have e : m.thing does = ({ does m.sooner with done := wrap64 ((does m.sooner).done + 1) }, 0) := by unfold Dk.thing; rw [if_neg (by rw [HCL.out.2]; decide), if_neg hc, if_neg hf]
    rw [e]
    clear e
    have HCF := Lib.hid (show ∀ w', Grows w w' → w'.cell? ⟨d, 8, none⟩ = some (.int .i64 m.cut) ∧ w'.cell? ⟨d, 7, none⟩ = some (.int .i64 m.fail) from fun w' hg => ⟨by have := hg.cellq (i := 8) HCL.out.1; exact this, by have := hg.cellq (i := 7) HCL.out.1; exact this⟩)
    have HHC := Lib.hid hc
    have d8 : (m.cut == 0) = false := by simpa using hc
    have d8' : decide (m.cut = 0) = false := by simpa using hc
    have HHF := Lib.hid hf
    have d7 : (m.fail == 0) = false := by simpa using hf
    have d7' : decide (m.fail = 0) = false := by simpa using hf
    clear hc hf
    generalize hxf : m.fail = xf at HCF d7 d7'
    generalize hxc : m.cut = xc at HCF d8 d8'
    have HXF := Lib.hid (And.intro hxf hxc)
    clear hxf hxc
    go_enter Tryz.func67, Tryz.ntmps67
    go_wp2_with (fail)
    refine q_region mixed (by kernel_rfl) ?_
    iterate 12 (refine q_op' (v := ?_) (a' := ?_) (by rfl) ?_ ?_ ?_
                rotate_left 2
                · intro w' hC
                  obtain ⟨z0, z1⟩ := HCF.out w' hC
                  clear hC
                  go_simp
                  try with_reducible rfl
                · simp only [Act.put, List.setIfInBounds_toArray, List.set_cons_zero, List.set_cons_succ]
                  try rfl)
    refine wpQuiet_nil ?_
    intro w2 hC
    have HCw2 := Lib.hid hC
    clear hC
    have HW2 := Lib.hid (H.out.grow HCw2.out)
    clear HCF
    go_wp2_with (fail)
    refine (soon_any w2 HW2.out HS.out.1 HS.out.2).mono ?_
    rintro e w3 ⟨rfl, h3, s3⟩
    have H3 := Lib.hid h3
    have S3 := Lib.hid s3
    clear h3 s3
    go_wp2_with (fail)
    refine (soon_any2 w3 H3.out HS.out.2).mono ?_
    rintro e w4 ⟨rfl, h4, s4⟩
    have H4 := Lib.hid (show DkAt w4 d own G m.sooner from h4)
    have S4 := Lib.hid ((HCw2.out |> Spares.grows (own := fun k => k = d)).trans (S3.out.trans s4))
    clear h4 s4 S3 H3
    go_wp2_with (fail)
    refine (HDO.out HHC.out HHF.out w4 H4.out S4.out).mono ?_
    rintro e w5 ⟨rfl, own', G', h5, s5, o5⟩
    have c6 : w5.cell? ⟨d, 6, none⟩ = some (.int .i64 (does m.sooner).done) := h5.cell 6
    have f6 := h5.top.free 6
    have H5 := Lib.hid h5
    have S5 := Lib.hid s5
    have O5 := Lib.hid o5
    clear h5 s5 o5
    generalize hm2 : does m.sooner = m2 at *
    have HM2 := Lib.hid hm2
    clear hm2
    go_wp2_with (fail)
    go_ret
    obtain rfl := HM2.out
    exact ⟨rfl, own', G', H5.out.set 6 _ rfl rfl rfl rfl rfl rfl, ((S4.out.wider fun k _ e => .inl e).trans S5.out).setCell (p := ⟨d, 6, none⟩) (.inl rfl) _, fun k hk => (O5.out k hk).imp id fun h => Nat.le_trans S4.out.size h⟩
end
end Go.Proofs.YtdkpbphgaenlnaaGreat


/-
  What Append and Sync do to a file.
-/
namespace Go.Proofs.YtdkpbphgaenlnaaGreat
open Go.RowKit Go.Maps Go.WideMaps
set_option linter.unusedVariables false
set_option linter.unusedSimpArgs false
attribute [local irreducible] Go.wpQuiet

/-- A slice stays where its block does. -/
theorem Sl.off {w w' : World} {A : Option Addr} {n c : Nat} {bs : List UInt8} (h : Sl w A n c bs) (hz : w.heap.size ≤ w'.heap.size) (hA : ∀ ad, A = some ad → bs ≠ [] → ad.block < w.heap.size → w'.heap[ad.block]? = w.heap[ad.block]?) : Sl w' A n c bs := by
  have hr : Row w w.heap.size A n (bs.map byteV) := h.bytes
  refine ⟨(show Row w' w'.heap.size A n (bs.map byteV) from ⟨hr.len, fun k v hv => ?_⟩), h.cap, h.bare⟩
  obtain ⟨ad, he, hb, hc⟩ := hr.spot k v hv
  refine ⟨ad, he, by omega, ?_⟩
  rw [← hc]
  refine World.cell?_of_block ?_
  rw [show (ad.add k).block = ad.block by unfold Addr.add; split <;> rfl]
  exact hA ad he (fun e => by rw [e] at hv; simp at hv) hb

section
variable {w : World} {d : Nat} {own : Nat → Prop} {G : Geo} {m : Dk}
/-- All of a file's bytes are kept: one cell turns. -/
theorem keep_raw (w : World) {b n c : Nat} {A : Option Addr} {x y : Int} (h : Whole w b 92 #[.int .i64 x, .slice A n c, .int .i64 y]) :
    Calls Tryz.prog 104 #[.pointer (some ⟨b, 0, none⟩)] w fun e w' => e = .returned (.tuple #[]) ∧ w' = w.setCell ⟨b, 2, none⟩ (.int .i64 (n : Int)) := by
  have c1 : w.cell? ⟨b, 1, none⟩ = some (.slice A n c) := h.cell 1
  have c2 : w.cell? ⟨b, 2, none⟩ = some (.int .i64 y) := h.cell 2
  have f2 := h.free 2
  clear h
  go_enter Tryz.func104, Tryz.ntmps104
  go_wp2
  go_end0
  exact ⟨rfl, rfl⟩

/-- A file's own block, and its row, have turned: so has the disk. -/
theorem DkAt.filed {w w' : World} (h : DkAt w d own G m) {i : Nat} (hi : i < m.made) {v : Value} {f : Fl} (hc : Whole w' (G.loc i) 92 #[.int .i64 (i : Int), v, .int .i64 (f.kept : Int)])
    (hr : w'.ownsRow 0 5 1 v f.bytes.length (f.bytes.map byteV)) (hv : ∀ k, v.ownBlock = some k → (G.row i).ownBlock = some k ∨ w.heap.size ≤ k)
    (hs : Spares (fun k => k = G.loc i ∨ (G.row i).ownBlock = some k) w w') : DkTo w d own w' (m.setFile i f) := by
  have hold : ∀ k, v.ownBlock = some k → k < w'.heap.size := fun k hk => (hr.lt k hk).2
  have h1 : DkRest w' (fun k => own k ∨ v.ownBlock = some k) { G with row := fun j => if j = i then v else G.row j } (m.setFile i f) :=
    h.rest.filed hi hc hr (fun k hk => .inl hk) (fun k hk => hk.elim (fun hk => Nat.lt_of_lt_of_le (h.rest.lt k hk) hs.size) (hold k)) (fun k hk => .inr hk)
      (fun k hk => (hv k hk).imp id fun hge j hj e => by have := h.rest.lt k (h.rest.or j k hj e); omega)
      (fun k hk h1 h2 => hs.same k (h.rest.lt k hk) fun e => e.elim h1 h2)
  have hd1 : ¬ (d = G.loc i ∨ (G.row i).ownBlock = some d) := by
    rintro (e | e)
    · exact h.free (e ▸ h.rest.ol i hi)
    · exact h.free (h.rest.or i d hi e)
  have hsz := hs.size
  refine ⟨_, _, ⟨h1, h.top.same (hs.same d h.top.lt hd1), ?_⟩, hs.wider fun k _ hk => .inr ?_, ?_⟩
  · rintro (e | e)
    · exact h.free e
    · rcases hv d e with e | e
      · exact hd1 (.inr e)
      · have := h.top.lt; omega
  · rcases hk with rfl | hk
    · exact h.rest.ol i hi
    · exact h.rest.or i k hi hk
  · rintro k (hk | hk)
    · exact .inl hk
    · exact (hv k hk).imp (h.rest.or i k hi) id

theorem sync_do (w : World) (h : DkAt w d own G m) {i : Nat} (hi : i < m.made) : Calls Tryz.prog 104 #[.pointer (some ⟨G.loc i, 0, none⟩)] w fun e w' => e = .returned (.tuple #[]) ∧ DkTo w d own w' (m.doSync i) := by
  obtain ⟨A, c, hA, _⟩ := slice_of_owned (h.rest.rows i hi)
  have hc := h.rest.cells i hi
  rw [hA] at hc
  refine (keep_raw w hc).mono ?_
  rintro e w' ⟨rfl, hw⟩
  refine ⟨rfl, ?_⟩
  have hne : G.loc i ≠ d := fun e => h.free (e ▸ h.rest.ol i hi)
  have hb : (G.row i).ownBlock ≠ some (G.loc i) := fun e => by
    obtain ⟨cur, h1⟩ := row_block (h.rest.rows i hi) e
    unfold Whole at hc
    rw [hc] at h1
    injection h1 with h1
    injection h1 with _ h1 _
    cases h1
  have hs : Spares (fun k => k = G.loc i ∨ (G.row i).ownBlock = some k) w w' := hw ▸ (Spares.refl _ w).setCell (p := ⟨G.loc i, 2, none⟩) (.inl rfl) _
  have hr : w'.ownsRow 0 5 1 (G.row i) (m.files i).bytes.length ((m.files i).bytes.map byteV) := row_same (h.rest.rows i hi) fun k hk => by
    rw [hw]
    exact Below.heap_setCell _ _ _ _ fun e => hb (by have e : k = G.loc i := e; exact e ▸ hk)
  refine h.filed hi (f := ⟨(m.files i).bytes, (m.files i).bytes.length⟩) ?_ hr (fun k hk => .inl hk) hs
  rw [hw, hA]
  exact hc.put 2 _

set_option maxHeartbeats 4000000 in
set_option maxRecDepth 100000 in
theorem append_do (w : World) (h : DkAt w d own G m) {i : Nat} (hi : i < m.made) {a0 b0 d0 : Nat} {A : Option Addr} {nb cb : Nat} {bs : List UInt8}
    (ha : Whole w a0 89 #[ptrV (G.loc i)]) (hb : Whole w b0 55 #[.slice A nb cb]) (hd : Whole w d0 24 #[ptrV d])
    (ho : ∀ k, k = a0 ∨ k = b0 ∨ k = d0 → k ≠ d ∧ ¬ own k) (hs : Sl w A nb cb bs) (hoff : ∀ ad, A = some ad → bs ≠ [] → ad.block ≠ d ∧ ¬ own ad.block) (h1 : (m.files i).bytes.length ≤ 1000000000) (h2 : nb ≤ 1000000000) :
    Calls Tryz.prog 103 #[ptrV a0, ptrV b0, ptrV d0] w fun e w' => e = .returned (.tuple #[]) ∧ DkTo w d own w' (m.doAppend i bs) := by
  obtain ⟨A0, c0, hA0, _⟩ := slice_of_owned (h.rest.rows i hi)
  obtain ⟨i0, hi0, hz0, hz1, hz2⟩ := info_parts infoU8
  have HI := Lib.hid (And.intro hi0 (And.intro hz0 (And.intro hz1 hz2)))
  clear hi0 hz0 hz1 hz2
  have hc := h.rest.cells i hi
  have hrow := h.rest.rows i hi
  rw [hA0] at hc hrow
  obtain ⟨n0, hn0⟩ : ∃ n0, (m.files i).bytes.length = n0 := ⟨_, rfl⟩
  rw [hn0] at hc hrow h1 hA0
  have hown : ∀ k, (Value.slice A0 n0 c0).ownBlock = some k → own k := fun k hk => h.rest.or i k hi (hA0 ▸ hk)
  have hoc : ∀ k, k = a0 ∨ k = b0 ∨ k = d0 → (Value.slice A0 n0 c0).ownBlock ≠ some k := fun k hk e => (ho k hk).2 (hown k e)
  have hlc : (Value.slice A0 n0 c0).ownBlock ≠ some (G.loc i) := fun e => by
    obtain ⟨cur, h1⟩ := row_block hrow e
    unfold Whole at hc
    rw [hc] at h1
    injection h1 with h1
    injection h1 with _ h1 _
    cases h1
  have hdc : (Value.slice A0 n0 c0).ownBlock ≠ some d := fun e => h.free (hown d e)
  have hld : G.loc i ≠ d := fun e => h.free (e ▸ h.rest.ol i hi)
  -- what stays while only the row's own block turns
  have stay : ∀ w', Spares (fun k => (Value.slice A0 n0 c0).ownBlock = some k) w w' → Whole w' a0 89 #[ptrV (G.loc i)] ∧ Whole w' b0 55 #[.slice A nb cb] ∧ Whole w' d0 24 #[ptrV d] ∧ Whole w' (G.loc i) 92 #[.int .i64 (i : Int), .slice A0 n0 c0, .int .i64 ((m.files i).kept : Int)] ∧ Whole w' d 72 (dCells m G.nb G.kb G.pv) ∧ Sl w' A nb cb bs := fun w' hsp =>
    ⟨ha.same (hsp.same _ ha.lt (hoc _ (.inl rfl))), hb.same (hsp.same _ hb.lt (hoc _ (.inr (.inl rfl)))), hd.same (hsp.same _ hd.lt (hoc _ (.inr (.inr rfl)))), hc.same (hsp.same _ hc.lt hlc), h.top.same (hsp.same _ h.top.lt hdc),
      hs.off hsp.size fun ad e hne hlt => hsp.same _ hlt fun e2 => (hoff ad e hne).2 (hown _ e2)⟩
  have HST := Lib.hid stay
  have HROW := Lib.hid hrow
  have HDK := Lib.hid h
  have HQ := Lib.hid (And.intro hi (And.intro hown (And.intro hlc (And.intro hdc hld))))
  have HA0 := Lib.hid (And.intro hA0 hn0)
  have HS := Lib.hid hs
  have HO := Lib.hid (And.intro ho hoff)
  clear h hi ha hb hd ho hs hoff hA0 hc hrow hn0 hown hoc hlc hdc hld stay
  generalize hlf : G.loc i = lf at *
  have HLF := Lib.hid hlf
  clear hlf
  unfold ptrV
  go_enter Tryz.func103, Tryz.ntmps103
  go_wp2_with (fail)
  refine wp_region_jobs (G := Grows) (E := Spares (fun k => (Value.slice A0 n0 c0).ownBlock = some k)) 9 [valJob (fun k => (Value.slice A0 n0 c0).ownBlock = some k) (.pointer (some ⟨lf, 0, none⟩)), valJob (fun k => (Value.slice A0 n0 c0).ownBlock = some k) (.pointer (some ⟨lf, 0, none⟩)), valJob (fun k => (Value.slice A0 n0 c0).ownBlock = some k) (.pointer (some ⟨lf, 0, none⟩)), valJob (fun k => (Value.slice A0 n0 c0).ownBlock = some k) (.pointer (some ⟨lf, 1, none⟩)), valJob (fun k => (Value.slice A0 n0 c0).ownBlock = some k) (.slice A0 n0 c0), valJob (fun k => (Value.slice A0 n0 c0).ownBlock = some k) (.slice A nb cb), appJob (fun k => (Value.slice A0 n0 c0).ownBlock = some k) 0 5 (.slice A0 n0 c0) w.heap.size (n0 + nb) (((m.files i).bytes.map byteV) ++ bs.map byteV), valJob (fun k => (Value.slice A0 n0 c0).ownBlock = some k) (.pointer (some ⟨lf, 0, none⟩)), valJob (fun k => (Value.slice A0 n0 c0).ownBlock = some k) (.pointer (some ⟨lf, 1, none⟩))] [(false, false), (false, false), (false, false), (false, false), (false, false), (false, false), (true, true), (false, false), (false, false)] (fun w => w.ownsRow 0 5 1 (.slice A0 n0 c0) n0 ((m.files i).bytes.map byteV)) rfl mixed (by kernel_rfl) (fun _ _ => Spares.grows) (fun _ _ _ => Spares.trans) (spares_drew _ _) (row_same HROW.out fun _ _ => rfl) (fun _ _ h g => owned_grow h g) ?_
  simp only [List.take_succ_cons, List.take_zero, List.drop_succ_cons, List.drop_zero]
  refine j_val (.pointer (some ⟨lf, 0, none⟩)) (by rfl) ?_ ?_
  · intro w' hC; obtain ⟨p1, p2, p3, p4, p5, p6⟩ := HST.out w' hC; have q1 : w'.cell? ⟨a0, 0, none⟩ = some (.pointer (some ⟨lf, 0, none⟩)) := p1.cell 0; clear p1 p2 p3 p4 p5 p6; clear hC; go_simp
  simp only [Act.put, List.setIfInBounds_toArray, List.set_cons_zero, List.set_cons_succ]
  refine j_val (.pointer (some ⟨lf, 0, none⟩)) (by rfl) ?_ ?_
  · intro w' hC; obtain ⟨p1, p2, p3, p4, p5, p6⟩ := HST.out w' hC; have q1 : w'.cell? ⟨a0, 0, none⟩ = some (.pointer (some ⟨lf, 0, none⟩)) := p1.cell 0; clear p1 p2 p3 p4 p5 p6; clear hC; go_simp
  simp only [Act.put, List.setIfInBounds_toArray, List.set_cons_zero, List.set_cons_succ]
  refine j_val (.pointer (some ⟨lf, 0, none⟩)) (by rfl) ?_ ?_
  · intro w' hC; obtain ⟨p1, p2, p3, p4, p5, p6⟩ := HST.out w' hC; have q1 : w'.cell? ⟨lf, 1, none⟩ = some (.slice A0 n0 c0) := p4.cell 1; clear p1 p2 p3 p4 p5 p6; clear hC; go_simp
  simp only [Act.put, List.setIfInBounds_toArray, List.set_cons_zero, List.set_cons_succ]
  refine j_val (.pointer (some ⟨lf, 1, none⟩)) (by rfl) ?_ ?_
  · intro w' hC; obtain ⟨p1, p2, p3, p4, p5, p6⟩ := HST.out w' hC; have q1 : w'.cell? ⟨lf, 1, none⟩ = some (.slice A0 n0 c0) := p4.cell 1; clear p1 p2 p3 p4 p5 p6; clear hC; go_simp
  simp only [Act.put, List.setIfInBounds_toArray, List.set_cons_zero, List.set_cons_succ]
  refine j_val (.slice A0 n0 c0) (by rfl) ?_ ?_
  · intro w' hC; obtain ⟨p1, p2, p3, p4, p5, p6⟩ := HST.out w' hC; have q1 : w'.cell? ⟨lf, 1, none⟩ = some (.slice A0 n0 c0) := p4.cell 1; clear p1 p2 p3 p4 p5 p6; clear hC; go_simp
  simp only [Act.put, List.setIfInBounds_toArray, List.set_cons_zero, List.set_cons_succ]
  refine j_val (.slice A nb cb) (by rfl) ?_ ?_
  · intro w' hC; obtain ⟨p1, p2, p3, p4, p5, p6⟩ := HST.out w' hC; have q1 : w'.cell? ⟨b0, 0, none⟩ = some (.slice A nb cb) := p2.cell 0; clear p1 p2 p3 p4 p5 p6; clear hC; go_simp
  simp only [Act.put, List.setIfInBounds_toArray, List.set_cons_zero, List.set_cons_succ]
  refine j_append (by rfl) (.tmp 7) (.tmp 8) 55 rfl (B := w.heap.size) Tryz.underlying55 HI.out.1 HI.out.2.1 HI.out.2.2.1 HI.out.2.2.2 rfl rfl (.slice A0 n0 c0) (fun w' h => ⟨h, .inl rfl⟩) (Nat.le_refl _) (fun _ h => h) (fun _ _ _ h _ => h) rfl (fun w' hC _ => ⟨_, (HST.out w' hC).2.2.2.2.2.bytes⟩) HS.out.bare (byteV_one _) (n0 + nb) rfl (((m.files i).bytes.map byteV) ++ bs.map byteV) rfl (by unfold maxLen; omega) (by omega) (Nat.zero_le _) (fun _ _ _ _ h _ => h) ?_
  intro A2 cc2
  simp only [Act.put, List.setIfInBounds_toArray, List.set_cons_zero, List.set_cons_succ]
  refine j_val (.pointer (some ⟨lf, 0, none⟩)) (by rfl) ?_ ?_
  · intro w' hC; obtain ⟨p1, p2, p3, p4, p5, p6⟩ := HST.out w' hC; have q1 : w'.cell? ⟨lf, 1, none⟩ = some (.slice A0 n0 c0) := p4.cell 1; clear p1 p2 p3 p4 p5 p6; clear hC; go_simp
  simp only [Act.put, List.setIfInBounds_toArray, List.set_cons_zero, List.set_cons_succ]
  refine j_val (.pointer (some ⟨lf, 1, none⟩)) (by rfl) ?_ ?_
  · intro w' hC; obtain ⟨p1, p2, p3, p4, p5, p6⟩ := HST.out w' hC; have q1 : w'.cell? ⟨lf, 1, none⟩ = some (.slice A0 n0 c0) := p4.cell 1; clear p1 p2 p3 p4 p5 p6; clear hC; go_simp
  simp only [Act.put, List.setIfInBounds_toArray, List.set_cons_zero, List.set_cons_succ]
  refine wpJ_end ?_
  intro w2 hC hks hcls
  have HCw2 := Lib.hid hC
  have HLw2 := Lib.hid hcls
  clear hC hks hcls
  have HSTW := Lib.hid (HST.out w2 HCw2.out)
  obtain ⟨p1, p2, p3, p4, p5, p6⟩ := HSTW.out
  have c1 : w2.cell? ⟨lf, 1, none⟩ = some (.slice A0 n0 c0) := p4.cell 1
  have f1 := p4.free 1
  have HP := Lib.hid (And.intro p1 (And.intro p2 (And.intro p3 (And.intro p4 (And.intro p5 p6)))))
  clear p1 p2 p3 p4 p5 p6
  go_wp2_with (fail)
  obtain ⟨w3, hw3⟩ : ∃ w3, w2.setCell ⟨lf, 1, none⟩ (.slice A2 (n0 + nb) cc2) = w3 := ⟨_, rfl⟩
  rw [hw3]
  have key : DkTo w d own w3 (m.setFile i ⟨(m.files i).bytes ++ bs, (m.files i).kept⟩) ∧ Whole w3 b0 55 #[.slice A nb cb] ∧ Whole w3 d0 24 #[ptrV d] := by
    obtain ⟨p1, p2, p3, p4, p5, p6⟩ := HP.out
    obtain ⟨hi, hown, hlc, hdc, hld⟩ := HQ.out
    obtain ⟨hrow, hat⟩ := HLw2.out
    have hne : ∀ k, k = a0 ∨ k = b0 ∨ k = d0 → k ≠ lf := fun k hk e => (HO.out.1 k hk).2 (e ▸ (HLF.out ▸ HDK.out.rest.ol i hi : own lf))
    have hn2 : (Value.slice A2 (n0 + nb) cc2).ownBlock ≠ some lf := fun e => by
      obtain ⟨cur, h1⟩ := row_block hrow e
      unfold Whole at p4
      rw [p4] at h1
      injection h1 with h1
      injection h1 with _ h1 _
      cases h1
    have hlen : ((m.files i).bytes ++ bs).length = n0 + nb := by rw [List.length_append, HA0.out.2, HS.out.len]
    refine ⟨HDK.out.filed hi (f := ⟨(m.files i).bytes ++ bs, (m.files i).kept⟩) (v := .slice A2 (n0 + nb) cc2) ?_ ?_ ?_ ?_, ?_, ?_⟩
    · rw [HLF.out, ← hw3]
      exact p4.put 1 _
    · show w3.ownsRow 0 5 1 _ ((m.files i).bytes ++ bs).length _
      rw [hlen, List.map_append, ← hw3]
      exact row_same hrow fun k hk => Below.heap_setCell _ _ _ _ fun e => hn2 (by have e : k = lf := e; exact e ▸ hk)
    · intro k hk
      rw [HA0.out.1]
      rcases hat with e | ⟨g, e, hg⟩
      · exact .inl (e ▸ hk)
      · rw [e] at hk
        cases hk
        exact .inr hg
    · rw [HLF.out, HA0.out.1, ← hw3]
      exact (HCw2.out.wider fun k _ hk => .inr hk).setCell (p := ⟨lf, 1, none⟩) (.inl rfl) _
    · rw [← hw3]
      exact p2.elsewhere (fun e => hne b0 (.inr (.inl rfl)) e) _
    · rw [← hw3]
      exact p3.elsewhere (fun e => hne d0 (.inr (.inr rfl)) e) _
  clear hw3
  obtain ⟨⟨own3, G3, h3, s3, o3⟩, kb, kd⟩ := key
  have H3 := Lib.hid h3
  have S3 := Lib.hid s3
  have O3 := Lib.hid o3
  have HCL := Lib.hid (show ∀ w', Grows w3 w' → w'.cell? ⟨d0, 0, none⟩ = some (.pointer (some ⟨d, 0, none⟩)) ∧ w'.cell? ⟨b0, 0, none⟩ = some (.slice A nb cb) ∧ w'.cell? ⟨d, 2, none⟩ = some (.int .i64 m.used) from fun w' hg => ⟨hg.cellq kd, hg.cellq kb, hg.cellq h3.top⟩)
  have HLEN := Lib.hid HS.out.len
  clear h3 s3 o3 kb kd HP HSTW HROW HST HLw2 HCw2 c1 f1
  generalize hus : m.used = us at *
  have HUS := Lib.hid hus
  clear hus
  refine wp_region_facts_tail (E := Grows) 9 [valFact (.pointer (some ⟨d, 0, none⟩)), valFact (.pointer (some ⟨d, 0, none⟩)), valFact (.pointer (some ⟨d, 2, none⟩)), valFact (.int .i64 us), valFact (.slice A nb cb), valFact (.int .i64 (nb : Int)), valFact (.int .i64 (wrap64 (us + nb))), valFact (.pointer (some ⟨d, 0, none⟩)), valFact (.pointer (some ⟨d, 2, none⟩))] mixed (by kernel_rfl) (fun _ _ _ => Grows.trans) (grows_drew _) ?_
  simp only [List.take_succ_cons, List.take_zero, List.drop_succ_cons, List.drop_zero]
  refine f_val (.pointer (some ⟨d, 0, none⟩)) (by rfl) ?_ ?_
  · intro w' hC; obtain ⟨q1, q2, q3⟩ := HCL.out w' hC; clear hC; go_simp
  simp only [Act.put, List.setIfInBounds_toArray, List.set_cons_zero, List.set_cons_succ]
  refine f_val (.pointer (some ⟨d, 0, none⟩)) (by rfl) ?_ ?_
  · intro w' hC; obtain ⟨q1, q2, q3⟩ := HCL.out w' hC; clear hC; go_simp
  simp only [Act.put, List.setIfInBounds_toArray, List.set_cons_zero, List.set_cons_succ]
  refine f_val (.pointer (some ⟨d, 2, none⟩)) (by rfl) ?_ ?_
  · intro w' hC; obtain ⟨q1, q2, q3⟩ := HCL.out w' hC; clear hC; go_simp
  simp only [Act.put, List.setIfInBounds_toArray, List.set_cons_zero, List.set_cons_succ]
  refine f_val (.int .i64 us) (by rfl) ?_ ?_
  · intro w' hC; obtain ⟨q1, q2, q3⟩ := HCL.out w' hC; clear hC; go_simp
  simp only [Act.put, List.setIfInBounds_toArray, List.set_cons_zero, List.set_cons_succ]
  refine f_val (.slice A nb cb) (by rfl) ?_ ?_
  · intro w' hC; obtain ⟨q1, q2, q3⟩ := HCL.out w' hC; clear hC; go_simp
  simp only [Act.put, List.setIfInBounds_toArray, List.set_cons_zero, List.set_cons_succ]
  refine f_val (.int .i64 (nb : Int)) (by rfl) ?_ ?_
  · intro w' hC; clear hC; go_simp
  simp only [Act.put, List.setIfInBounds_toArray, List.set_cons_zero, List.set_cons_succ]
  refine f_val (.int .i64 (wrap64 (us + nb))) (by rfl) ?_ ?_
  · intro w' hC; clear hC; (go_simp; unfold wrap64; rw [IntKind.wrap_i64])
  simp only [Act.put, List.setIfInBounds_toArray, List.set_cons_zero, List.set_cons_succ]
  refine f_val (.pointer (some ⟨d, 0, none⟩)) (by rfl) ?_ ?_
  · intro w' hC; obtain ⟨q1, q2, q3⟩ := HCL.out w' hC; clear hC; go_simp
  simp only [Act.put, List.setIfInBounds_toArray, List.set_cons_zero, List.set_cons_succ]
  refine f_val (.pointer (some ⟨d, 2, none⟩)) (by rfl) ?_ ?_
  · intro w' hC; obtain ⟨q1, q2, q3⟩ := HCL.out w' hC; clear hC; go_simp
  simp only [Act.put, List.setIfInBounds_toArray, List.set_cons_zero, List.set_cons_succ]
  refine wpF_end ?_
  intro w4 hC hks
  have HCw4 := Lib.hid hC
  clear hC hks
  have c2 := (HCL.out w4 HCw4.out).2.2
  have f2 := (H3.out.grow HCw4.out).top.free 2
  go_wp2_with (fail)
  go_end0
  obtain rfl := HUS.out
  refine ⟨rfl, own3, G3, ?_, ?_, O3.out⟩
  · have h4 : DkAt (w4.setCell ⟨d, 2, none⟩ (.int .i64 (wrap64 (m.used + nb)))) d own3 G3 { m.setFile i ⟨(m.files i).bytes ++ bs, (m.files i).kept⟩ with used := wrap64 (m.used + nb) } := (H3.out.grow HCw4.out).set 2 _ rfl rfl rfl rfl rfl rfl
    have e : m.doAppend i bs = { m.setFile i ⟨(m.files i).bytes ++ bs, (m.files i).kept⟩ with used := wrap64 (m.used + nb) } := by
      unfold Dk.doAppend
      rw [HLEN.out]
    rw [e]
    exact h4
  · exact (S3.out.trans (Spares.grows HCw4.out)).setCell (p := ⟨d, 2, none⟩) (.inl rfl) _
end
end Go.Proofs.YtdkpbphgaenlnaaGreat


/-
  What Create does to names.
-/
namespace Go.Proofs.YtdkpbphgaenlnaaGreat
open Go.RowKit Go.Maps Go.WideMaps
set_option linter.unusedVariables false
set_option linter.unusedSimpArgs false

/-- A step of a walk with facts, told by its own fact. -/
theorem f_tell {P : Program} {ops : Array Oper} {W : World} {Q : Act → World → Prop} {o : Oper} {rest : List Oper} {fs : List (Fact Grows)} {ks : Known} {a : Act} {F : Fact Grows} (hw : Region.wanted o (yielded ops a.tmps) = true)
    (h1 : ∀ w, Grows W w → ks.for (o.looksAt ops) w → gives P F o a.eval w) (h2 : ∀ x, wpF P ops Grows W Q rest fs ((o.dst, F.R x) :: ks) (a.put o.dst (F.val x))) : wpF P ops Grows W Q (o :: rest) (F :: fs) ks a := by
  unfold wpF fStep
  rw [if_pos hw]
  exact ⟨h1, h2⟩
/-- A new block of these cells, from block N on. -/
def boxFact (N : Nat) (t : TypeId) (cs : Array Value) : Fact Grows := ⟨Nat, 0, fun g => .pointer (some ⟨g, 0, none⟩), fun g w => Whole w g t cs ∧ N ≤ g, fun _ _ _ h g => ⟨g.whole h.1, h.2⟩⟩
theorem gives_box {P : Program} {N : Nat} {t : TypeId} {cs : Array Value} {o : Oper} {ρ : Operand → Value} {w : World} (hN : N ≤ w.heap.size) (h : (execOp ρ o).run P w = .ok (.value (.pointer (some ⟨w.heap.size, 0, none⟩))) (w.alloc (.cells cs t))) : gives P (boxFact N t cs) o ρ w := by
  unfold gives
  rw [h]
  exact ⟨grows_alloc _ _, w.heap.size, rfl, Whole.made _ _ _, hN⟩
theorem gives_call {P : Program} {F : Fact Grows} {o : Oper} {ρ : Operand → Value} {w : World} {f : FuncId} {args : Array Value} (h : (execOp ρ o).run P w = .ok (.enter f args) w) (hc : Calls P f args w fun e w' => Grows w w' ∧ ∃ x, e = .returned (F.val x) ∧ F.R x w') : gives P F o ρ w := by
  unfold gives
  rw [h]
  exact hc
/-- The function that a file is made by, the file new. -/
def madeFact (N : Nat) (n : Nm) (cs : Array Value) : Fact Grows :=
  ⟨Nat × Nat, (0, 0), fun p => .func (.func 115) #[] #[.pointer (some ⟨p.2, 0, none⟩), .pointer (some ⟨p.1, 0, none⟩)],
    fun p w => ∃ g, Whole w p.1 9 #[strB n] ∧ Whole w p.2 89 #[ptrV g] ∧ Whole w g 92 cs ∧ N ≤ p.1 ∧ N ≤ p.2 ∧ N ≤ g, fun _ _ _ ⟨g, h1, h2, h3, h4⟩ hg => ⟨g, hg.whole h1, hg.whole h2, hg.whole h3, h4⟩⟩

section
variable {w : World} {d : Nat} {own : Nat → Prop} {G : Geo} {m : Dk}

set_option maxHeartbeats 4000000 in
set_option maxRecDepth 100000 in
theorem create_do (w : World) {n : Nm} (h : DkAt w d own G m) {a0 b0 : Nat} (ha : Whole w a0 24 #[ptrV d]) (hb : Whole w b0 9 #[strB n]) (ho : ∀ k, k = a0 ∨ k = b0 → k ≠ d ∧ ¬ own k)
    (hn : n.length ≤ 1000000) (h1 : m.made ≤ 1000000000) (h2 : m.pend.length ≤ 1000000000) (h3 : m.names.length ≤ 1000000000) :
    Calls Tryz.prog 68 #[ptrV a0, ptrV b0] w fun e w' => e = .returned (.tuple #[]) ∧ DkTo w d own w' (m.doCreate n) := by
  have HCL := Lib.hid (show ∀ w', Grows w w' → w'.cell? ⟨a0, 0, none⟩ = some (.pointer (some ⟨d, 0, none⟩)) ∧ w'.cell? ⟨b0, 0, none⟩ = some (.string ⟨n.toArray⟩) ∧ w'.cell? ⟨d, 1, none⟩ = some (.int .i64 (m.made : Int)) from fun w' hg => ⟨hg.cellq ha, hg.cellq hb, hg.cellq h.top⟩)
  have HDK := Lib.hid h
  have HA := Lib.hid (And.intro ha ho)
  have HB := Lib.hid (And.intro h1 (And.intro h2 (And.intro h3 hn)))
  clear h ha hb ho h1 h2 h3 hn
  generalize hmd : m.made = md at HCL
  have HMD := Lib.hid hmd
  clear hmd
  unfold ptrV
  go_enter Tryz.func68, Tryz.ntmps68
  go_wp2_with (fail)
  refine wp_region_facts_tail (E := Grows) 9 [valFact (.pointer (some ⟨d, 0, none⟩)), valFact (.string ⟨n.toArray⟩), valFact (.pointer (some ⟨d, 0, none⟩)), valFact (.pointer (some ⟨d, 0, none⟩)), valFact (.pointer (some ⟨d, 1, none⟩)), valFact (.int .i64 (md : Int)), valFact (.agg #[.int .i64 (md : Int), .slice none 0 0, .int .i64 0]), boxFact w.heap.size 92 #[.int .i64 (md : Int), .slice none 0 0, .int .i64 0], madeFact w.heap.size n #[.int .i64 (md : Int), .slice none 0 0, .int .i64 0]] mixed (by kernel_rfl) (fun _ _ _ => Grows.trans) (grows_drew _) ?_
  simp only [List.take_succ_cons, List.take_zero, List.drop_succ_cons, List.drop_zero]
  refine f_val (.pointer (some ⟨d, 0, none⟩)) (by rfl) ?_ ?_
  · intro w' hC; obtain ⟨q1, q2, q3⟩ := HCL.out w' hC; clear hC; go_simp
  simp only [Act.put, List.setIfInBounds_toArray, List.set_cons_zero, List.set_cons_succ]
  refine f_val (.string ⟨n.toArray⟩) (by rfl) ?_ ?_
  · intro w' hC; obtain ⟨q1, q2, q3⟩ := HCL.out w' hC; clear hC; go_simp
  simp only [Act.put, List.setIfInBounds_toArray, List.set_cons_zero, List.set_cons_succ]
  refine f_val (.pointer (some ⟨d, 0, none⟩)) (by rfl) ?_ ?_
  · intro w' hC; obtain ⟨q1, q2, q3⟩ := HCL.out w' hC; clear hC; go_simp
  simp only [Act.put, List.setIfInBounds_toArray, List.set_cons_zero, List.set_cons_succ]
  refine f_val (.pointer (some ⟨d, 0, none⟩)) (by rfl) ?_ ?_
  · intro w' hC; obtain ⟨q1, q2, q3⟩ := HCL.out w' hC; clear hC; go_simp
  simp only [Act.put, List.setIfInBounds_toArray, List.set_cons_zero, List.set_cons_succ]
  refine f_val (.pointer (some ⟨d, 1, none⟩)) (by rfl) ?_ ?_
  · intro w' hC; obtain ⟨q1, q2, q3⟩ := HCL.out w' hC; clear hC; go_simp
  simp only [Act.put, List.setIfInBounds_toArray, List.set_cons_zero, List.set_cons_succ]
  refine f_val (.int .i64 (md : Int)) (by rfl) ?_ ?_
  · intro w' hC; obtain ⟨q1, q2, q3⟩ := HCL.out w' hC; clear hC; go_simp
  simp only [Act.put, List.setIfInBounds_toArray, List.set_cons_zero, List.set_cons_succ]
  refine f_val (.agg #[.int .i64 (md : Int), .slice none 0 0, .int .i64 0]) (by rfl) ?_ ?_
  · intro w' hC; clear hC; go_simp
  simp only [Act.put, List.setIfInBounds_toArray, List.set_cons_zero, List.set_cons_succ]
  refine f_tell (by rfl) ?_ ?_
  · intro w' hC _
    refine gives_box hC.size ?_
    clear hC; go_simp
  intro gb
  show wpF _ _ _ _ _ _ _ _ (Act.put _ _ (.pointer (some ⟨gb, 0, none⟩)))
  simp only [Act.put, List.setIfInBounds_toArray, List.set_cons_zero, List.set_cons_succ]
  refine f_tell (by rfl) ?_ ?_
  · intro w' hC hk
    have hgk := Known.get hk 0 (d := 9) rfl rfl
    refine gives_call (f := 70) (args := #[.string ⟨n.toArray⟩, .pointer (some ⟨gb, 0, none⟩)]) (by clear hC hk hgk; go_simp) ?_
    refine (made_any n gb w' HB.out.2.2.2).mono ?_
    rintro e w'' ⟨a, b, rfl, k1, k2, k3, k4, k5⟩
    exact ⟨k5, (a, b), rfl, gb, k1, k2, k5.whole hgk.1, Nat.le_trans hC.size k3, Nat.le_trans hC.size k4, hgk.2⟩
  rintro ⟨a2, b2⟩
  show wpF _ _ _ _ _ _ _ _ (Act.put _ _ (.func (.func 115) #[] #[.pointer (some ⟨b2, 0, none⟩), .pointer (some ⟨a2, 0, none⟩)]))
  simp only [Act.put, List.setIfInBounds_toArray, List.set_cons_zero, List.set_cons_succ]
  refine wpF_end ?_
  intro w2 hC hks
  have HCw2 := Lib.hid hC
  have HF := Lib.hid (Known.at hks 0 rfl)
  clear hC hks
  obtain ⟨g, hg1, hg2, hg3, hg4, hg5, hg6⟩ := HF.out
  have h1 : DkAt w2 d own G m := HDK.out.grow HCw2.out
  have hsz := HCw2.out.size
  have hno : ∀ k, w.heap.size ≤ k → ¬ own k ∧ k ≠ d := fun k hk => ⟨fun e => by have := HDK.out.rest.lt k e; omega, fun e => by have := HDK.out.top.lt; omega⟩
  obtain rfl := HMD.out
  have h2 := (h1.rest.making hg3 (hno g hg6).1).wider (own' := fun k => own k ∨ k = g ∨ k = a2 ∨ k = b2) (fun k hk => hk.imp id .inl) (by
    rintro k (hk | rfl | rfl | rfl)
    · exact h1.rest.lt k hk
    · exact hg3.lt
    · exact hg1.lt
    · exact hg2.lt)
  have hch : ChAt w2 (fun k => own k ∨ k = g ∨ k = a2 ∨ k = b2) (m.made + 1) (fun j => if j = m.made then g else G.loc j) (.func (.func 115) #[] #[.pointer (some ⟨b2, 0, none⟩), .pointer (some ⟨a2, 0, none⟩)]) (.made n m.made) :=
    ⟨by have := HB.out.2.2.2; unfold maxLen; omega, Nat.lt_succ_self _, a2, b2, rfl, .inr (.inr (.inl rfl)), .inr (.inr (.inr rfl)), by simp only [if_true]; exact hg2, hg1⟩
  have hnd : ¬ (own d ∨ d = g ∨ d = a2 ∨ d = b2) := by
    rintro (e | e | e | e)
    · exact h1.free e
    · exact (hno g hg6).2 e.symm
    · exact (hno a2 hg4).2 e.symm
    · exact (hno b2 hg5).2 e.symm
  have HCH := Lib.hid (change_any w2 h2 h1.top hnd hch (by exact HB.out.2.1) (by exact HB.out.2.2.1))
  have HOW := Lib.hid (And.intro hg4 (And.intro hg5 hg6))
  have HAW := Lib.hid (And.intro (HCw2.out.whole HA.out.1) (And.intro (HA.out.2 a0 (.inl rfl)) HA.out.1.lt))
  clear hg1 hg2 hg3 hg4 hg5 hg6 h1 h2 hch hnd HF hno hsz
  go_wp2_with (fail)
  refine HCH.out.mono ?_
  rintro e w3 ⟨rfl, ⟨own3, G3, r3, t3, n3, o3⟩, s3⟩
  have c1 : w3.cell? ⟨d, 1, none⟩ = some (.int .i64 (m.made : Int)) := t3.cell 1
  have f1 := t3.free 1
  have c0 : w3.cell? ⟨a0, 0, none⟩ = some (.pointer (some ⟨d, 0, none⟩)) := (HAW.out.1.same (s3.same a0 HAW.out.1.lt (by
    have := HAW.out.2.2
    rintro (e | e | e | e | e)
    · exact HAW.out.2.1.1 e
    · exact HAW.out.2.1.2 e
    · have := HOW.out.2.2; omega
    · have := HOW.out.1; omega
    · have := HOW.out.2.1; omega))).cell 0
  have R3 := Lib.hid (And.intro r3 (And.intro t3 (And.intro n3 (And.intro o3 s3))))
  clear r3 t3 n3 o3 s3 HCH HAW
  have e1 : wrap64 ((m.made : Int) + 1) = ((m.made + 1 : Nat) : Int) := by
    have := HB.out.1
    rw [IntWalk.wrap64_in _ (by omega)]
    rfl
  go_wp2_with (fail)
  go_end0
  obtain ⟨r3, t3, n3, o3, s3⟩ := R3.out
  have hsz := HCw2.out.size
  refine ⟨rfl, own3, G3, ⟨(r3.stay (fun k hk => Below.heap_setCell _ _ _ _ fun e => n3 (by have e : k = d := e; exact e ▸ hk)) (by simp [World.setCell])).like rfl rfl rfl rfl rfl, ?_, n3⟩, ?_, ?_⟩
  · have := t3.put 1 (.int .i64 ((m.made + 1 : Nat) : Int))
    exact this
  · refine (((Spares.grows HCw2.out).trans (s3.wider (own' := fun k => (k = d ∨ own k) ∨ w.heap.size ≤ k) fun k _ hk => ?_)).setCell (p := ⟨d, 1, none⟩) (.inl (.inl rfl)) _).wider fun k hk h => h.elim id fun h => by omega
    rcases hk with e | e | e | e | e
    · exact .inl (.inl e)
    · exact .inl (.inr e)
    · exact .inr (e ▸ HOW.out.2.2)
    · exact .inr (e ▸ HOW.out.1)
    · exact .inr (e ▸ HOW.out.2.1)
  · intro k hk
    rcases o3 k hk with (e | e | e | e) | e
    · exact .inl e
    · exact .inr (e ▸ HOW.out.2.2)
    · exact .inr (e ▸ HOW.out.1)
    · exact .inr (e ▸ HOW.out.2.1)
    · exact .inr (by omega)
end
end Go.Proofs.YtdkpbphgaenlnaaGreat


/-
  What Remove and Rename do to names.
-/
namespace Go.Proofs.YtdkpbphgaenlnaaGreat
open Go.RowKit Go.Maps Go.WideMaps
set_option linter.unusedVariables false
set_option linter.unusedSimpArgs false

def takenFact (N : Nat) (n : Nm) : Fact Grows :=
  ⟨Nat, 0, fun p => .func (.func 164) #[] #[.pointer (some ⟨p, 0, none⟩)], fun p w => Whole w p 9 #[strB n] ∧ N ≤ p, fun _ _ _ h hg => ⟨hg.whole h.1, h.2⟩⟩
def movedFact (N : Nat) (n to : Nm) : Fact Grows :=
  ⟨Nat × Nat, (0, 0), fun p => .func (.func 144) #[] #[.pointer (some ⟨p.1, 0, none⟩), .pointer (some ⟨p.2, 0, none⟩)], fun p w => Whole w p.1 9 #[strB n] ∧ Whole w p.2 9 #[strB to] ∧ N ≤ p.1 ∧ N ≤ p.2, fun _ _ _ h hg => ⟨hg.whole h.1, hg.whole h.2.1, h.2.2⟩⟩

section
variable {w : World} {d : Nat} {own : Nat → Prop} {G : Geo} {m : Dk}

/-- A change, what it has copied being new. -/
theorem change_at {w w2 : World} (h : DkAt w d own G m) (hg : Grows w w2) (new : Nat → Prop) (hnew : ∀ k, new k → w.heap.size ≤ k ∧ k < w2.heap.size) {v : Value} {c : Ch} (hc : ChAt w2 (fun k => own k ∨ new k) m.made G.loc v c)
    (h2 : m.pend.length ≤ 1000000000) (h3 : m.names.length ≤ 1000000000) :
    Calls Tryz.prog 69 #[.pointer (some ⟨d, 0, none⟩), v] w2 fun e w' => e = .returned (.tuple #[]) ∧ DkTo w d own w' (m.change c) := by
  have h1 := h.grow hg
  have r2 : DkRest w2 (fun k => own k ∨ new k) G m := h1.rest.wider (fun k hk => .inl hk) fun k hk => hk.elim (h1.rest.lt k) fun e => (hnew k e).2
  have hnd : ¬ (own d ∨ new d) := fun e => e.elim h.free fun e => by have := (hnew d e).1; have := h.top.lt; omega
  refine (change_any w2 r2 h1.top hnd hc h2 h3).mono ?_
  rintro e w3 ⟨rfl, ⟨own3, G3, r3, t3, n3, o3⟩, s3⟩
  refine ⟨rfl, own3, G3, ⟨r3, t3, n3⟩, ?_, ?_⟩
  · refine ((Spares.grows hg).trans (s3.wider (own' := fun k => (k = d ∨ own k) ∨ w.heap.size ≤ k) fun k _ hk => ?_)).wider fun k hk h => h.elim id fun h => by omega
    rcases hk with e | e | e
    · exact .inl (.inl e)
    · exact .inl (.inr e)
    · exact .inr (hnew k e).1
  · intro k hk
    rcases o3 k hk with (e | e) | e
    · exact .inl e
    · exact .inr (hnew k e).1
    · exact .inr (Nat.le_trans hg.size e)

set_option maxHeartbeats 4000000 in
set_option maxRecDepth 100000 in
theorem remove_do (w : World) {n : Nm} (h : DkAt w d own G m) {i : Nat} (hi : i < m.made) {a0 b0 d0 : Nat} (ha : Whole w a0 24 #[ptrV d]) (hb : Whole w b0 89 #[ptrV (G.loc i)]) (hd : Whole w d0 9 #[strB n])
    (ho : ∀ k, k = a0 ∨ k = b0 ∨ k = d0 → k ≠ d ∧ ¬ own k) (hn : n.length ≤ 1000000) (h2 : m.pend.length ≤ 1000000000) (h3 : m.names.length ≤ 1000000000) :
    Calls Tryz.prog 142 #[ptrV a0, ptrV b0, ptrV d0] w fun e w' => e = .returned (.tuple #[]) ∧ DkTo w d own w' (m.doRemove i n) := by
  obtain ⟨A0, c0, hA0, _⟩ := slice_of_owned (h.rest.rows i hi)
  have hc := h.rest.cells i hi
  rw [hA0] at hc
  have HCL := Lib.hid (show ∀ w', Grows w w' → w'.cell? ⟨a0, 0, none⟩ = some (.pointer (some ⟨d, 0, none⟩)) ∧ w'.cell? ⟨b0, 0, none⟩ = some (.pointer (some ⟨G.loc i, 0, none⟩)) ∧ w'.cell? ⟨d, 2, none⟩ = some (.int .i64 m.used) ∧ w'.cell? ⟨G.loc i, 1, none⟩ = some (.slice A0 (m.files i).bytes.length c0)
    from fun w' hg => ⟨hg.cellq ha, hg.cellq hb, hg.cellq h.top, hg.cellq hc⟩)
  have HDK := Lib.hid h
  have HA := Lib.hid (And.intro ha (And.intro hd ho))
  have HB := Lib.hid (And.intro h2 (And.intro h3 hn))
  clear h ha hb hd ho h2 h3 hn hc hA0
  generalize hmd : m.used = us at HCL
  have HMD := Lib.hid hmd
  clear hmd
  generalize hfl : (m.files i).bytes.length = nf at HCL
  have HFL := Lib.hid hfl
  clear hfl
  generalize G.loc i = lf at HCL
  unfold ptrV
  go_enter Tryz.func142, Tryz.ntmps142
  go_wp2_with (fail)
  refine wp_region_facts_tail (E := Grows) 12 [valFact (.pointer (some ⟨d, 0, none⟩)), valFact (.pointer (some ⟨d, 0, none⟩)), valFact (.pointer (some ⟨d, 2, none⟩)), valFact (.int .i64 us), valFact (.pointer (some ⟨lf, 0, none⟩)), valFact (.pointer (some ⟨lf, 0, none⟩)), valFact (.pointer (some ⟨lf, 1, none⟩)), valFact (.slice A0 nf c0), valFact (.int .i64 (nf : Int)), valFact (.int .i64 (wrap64 (us - nf))), valFact (.pointer (some ⟨d, 0, none⟩)), valFact (.pointer (some ⟨d, 2, none⟩))] mixed (by kernel_rfl) (fun _ _ _ => Grows.trans) (grows_drew _) ?_
  simp only [List.take_succ_cons, List.take_zero, List.drop_succ_cons, List.drop_zero]
  refine f_val (.pointer (some ⟨d, 0, none⟩)) (by rfl) ?_ ?_
  · intro w' hC; obtain ⟨q1, q2, q3, q4⟩ := HCL.out w' hC; clear hC; go_simp
  simp only [Act.put, List.setIfInBounds_toArray, List.set_cons_zero, List.set_cons_succ]
  refine f_val (.pointer (some ⟨d, 0, none⟩)) (by rfl) ?_ ?_
  · intro w' hC; obtain ⟨q1, q2, q3, q4⟩ := HCL.out w' hC; clear hC; go_simp
  simp only [Act.put, List.setIfInBounds_toArray, List.set_cons_zero, List.set_cons_succ]
  refine f_val (.pointer (some ⟨d, 2, none⟩)) (by rfl) ?_ ?_
  · intro w' hC; obtain ⟨q1, q2, q3, q4⟩ := HCL.out w' hC; clear hC; go_simp
  simp only [Act.put, List.setIfInBounds_toArray, List.set_cons_zero, List.set_cons_succ]
  refine f_val (.int .i64 us) (by rfl) ?_ ?_
  · intro w' hC; obtain ⟨q1, q2, q3, q4⟩ := HCL.out w' hC; clear hC; go_simp
  simp only [Act.put, List.setIfInBounds_toArray, List.set_cons_zero, List.set_cons_succ]
  refine f_val (.pointer (some ⟨lf, 0, none⟩)) (by rfl) ?_ ?_
  · intro w' hC; obtain ⟨q1, q2, q3, q4⟩ := HCL.out w' hC; clear hC; go_simp
  simp only [Act.put, List.setIfInBounds_toArray, List.set_cons_zero, List.set_cons_succ]
  refine f_val (.pointer (some ⟨lf, 0, none⟩)) (by rfl) ?_ ?_
  · intro w' hC; obtain ⟨q1, q2, q3, q4⟩ := HCL.out w' hC; clear hC; go_simp
  simp only [Act.put, List.setIfInBounds_toArray, List.set_cons_zero, List.set_cons_succ]
  refine f_val (.pointer (some ⟨lf, 1, none⟩)) (by rfl) ?_ ?_
  · intro w' hC; obtain ⟨q1, q2, q3, q4⟩ := HCL.out w' hC; clear hC; go_simp
  simp only [Act.put, List.setIfInBounds_toArray, List.set_cons_zero, List.set_cons_succ]
  refine f_val (.slice A0 nf c0) (by rfl) ?_ ?_
  · intro w' hC; obtain ⟨q1, q2, q3, q4⟩ := HCL.out w' hC; clear hC; go_simp
  simp only [Act.put, List.setIfInBounds_toArray, List.set_cons_zero, List.set_cons_succ]
  refine f_val (.int .i64 (nf : Int)) (by rfl) ?_ ?_
  · intro w' hC; clear hC; go_simp
  simp only [Act.put, List.setIfInBounds_toArray, List.set_cons_zero, List.set_cons_succ]
  refine f_val (.int .i64 (wrap64 (us - nf))) (by rfl) ?_ ?_
  · intro w' hC; clear hC; (go_simp; unfold wrap64; rw [IntKind.wrap_i64])
  simp only [Act.put, List.setIfInBounds_toArray, List.set_cons_zero, List.set_cons_succ]
  refine f_val (.pointer (some ⟨d, 0, none⟩)) (by rfl) ?_ ?_
  · intro w' hC; obtain ⟨q1, q2, q3, q4⟩ := HCL.out w' hC; clear hC; go_simp
  simp only [Act.put, List.setIfInBounds_toArray, List.set_cons_zero, List.set_cons_succ]
  refine f_val (.pointer (some ⟨d, 2, none⟩)) (by rfl) ?_ ?_
  · intro w' hC; obtain ⟨q1, q2, q3, q4⟩ := HCL.out w' hC; clear hC; go_simp
  simp only [Act.put, List.setIfInBounds_toArray, List.set_cons_zero, List.set_cons_succ]
  refine wpF_end ?_
  intro w2 hC hks
  have HCw2 := Lib.hid hC
  clear hC hks
  have c2 := (HCL.out w2 HCw2.out).2.2.1
  have f2 := (HDK.out.grow HCw2.out).top.free 2
  go_wp2_with (fail)
  obtain ⟨w3, hw3⟩ : ∃ w3, w2.setCell ⟨d, 2, none⟩ (.int .i64 (wrap64 (us - nf))) = w3 := ⟨_, rfl⟩
  rw [hw3]
  have hne : ∀ k, k = a0 ∨ k = b0 ∨ k = d0 → k ≠ d := fun k hk => (HA.out.2.2 k hk).1
  have h3 : DkAt w3 d own G { m with used := wrap64 (us - nf) } := hw3 ▸ (HDK.out.grow HCw2.out).set 2 _ rfl rfl rfl rfl rfl rfl
  have s3 : Spares (fun k => k = d) w w3 := hw3 ▸ (Spares.grows (own := fun k => k = d) HCw2.out).setCell (p := ⟨d, 2, none⟩) rfl _
  have ka : Whole w3 a0 24 #[ptrV d] := HA.out.1.same (s3.same a0 HA.out.1.lt (hne a0 (.inl rfl)))
  have kd : Whole w3 d0 9 #[strB n] := HA.out.2.1.same (s3.same d0 HA.out.2.1.lt (hne d0 (.inr (.inr rfl))))
  have HC3 := Lib.hid (show ∀ w', Grows w3 w' → w'.cell? ⟨a0, 0, none⟩ = some (.pointer (some ⟨d, 0, none⟩)) ∧ w'.cell? ⟨d0, 0, none⟩ = some (.string ⟨n.toArray⟩) from fun w' hg => ⟨hg.cellq ka, hg.cellq kd⟩)
  have H3 := Lib.hid h3
  have S3 := Lib.hid s3
  clear h3 s3 ka kd hne hw3 c2 f2
  refine wp_region_facts_tail (E := Grows) 3 [valFact (.pointer (some ⟨d, 0, none⟩)), valFact (.string ⟨n.toArray⟩), takenFact w3.heap.size n] mixed (by kernel_rfl) (fun _ _ _ => Grows.trans) (grows_drew _) ?_
  simp only [List.take_succ_cons, List.take_zero, List.drop_succ_cons, List.drop_zero]
  refine f_val (.pointer (some ⟨d, 0, none⟩)) (by rfl) ?_ ?_
  · intro w' hC; obtain ⟨q1, q2⟩ := HC3.out w' hC; clear hC; go_simp
  simp only [Act.put, List.setIfInBounds_toArray, List.set_cons_zero, List.set_cons_succ]
  refine f_val (.string ⟨n.toArray⟩) (by rfl) ?_ ?_
  · intro w' hC; obtain ⟨q1, q2⟩ := HC3.out w' hC; clear hC; go_simp
  simp only [Act.put, List.setIfInBounds_toArray, List.set_cons_zero, List.set_cons_succ]
  refine f_tell (by rfl) ?_ ?_
  · intro w' hC _
    refine gives_call (f := 143) (args := #[.string ⟨n.toArray⟩]) (by clear hC; go_simp) ?_
    refine (taken_any n w' HB.out.2.2).mono ?_
    rintro e w'' ⟨a, rfl, k1, k3, k5⟩
    exact ⟨k5, a, rfl, k1, Nat.le_trans hC.size k3⟩
  intro a2
  show wpF _ _ _ _ _ _ _ _ (Act.put _ _ (.func (.func 164) #[] #[.pointer (some ⟨a2, 0, none⟩)]))
  simp only [Act.put, List.setIfInBounds_toArray, List.set_cons_zero, List.set_cons_succ]
  refine wpF_end ?_
  intro w4 hC hks
  have HCw4 := Lib.hid hC
  have HF := Lib.hid (Known.at hks 0 rfl)
  clear hC hks
  have hch : ChAt w4 (fun k => own k ∨ k = a2) m.made G.loc (.func (.func 164) #[] #[.pointer (some ⟨a2, 0, none⟩)]) (.taken n) :=
    ⟨by have := HB.out.2.2; unfold maxLen; omega, a2, rfl, .inr rfl, HF.out.1⟩
  have HCH := Lib.hid (change_at H3.out HCw4.out (fun k => k = a2) (fun k hk => hk ▸ ⟨HF.out.2, HF.out.1.lt⟩) hch HB.out.1 HB.out.2.1)
  clear hch
  go_wp2_with (fail)
  refine HCH.out.mono ?_
  rintro e w5 ⟨rfl, h5⟩
  have H5 := Lib.hid h5
  clear h5
  go_wp2_with (fail)
  go_end0
  obtain rfl := HMD.out
  obtain rfl := HFL.out
  exact ⟨rfl, DkTo.behind S3.out H5.out⟩

set_option maxHeartbeats 4000000 in
set_option maxRecDepth 100000 in
theorem rename_do (w : World) {n to : Nm} (h : DkAt w d own G m) {a0 b0 d0 : Nat} (ha : Whole w a0 24 #[ptrV d]) (hb : Whole w b0 9 #[strB to]) (hd : Whole w d0 9 #[strB n])
    (ho : ∀ k, k = a0 ∨ k = b0 ∨ k = d0 → k ≠ d ∧ ¬ own k) (hn : n.length ≤ 1000000) (ht : to.length ≤ 1000000) (h2 : m.pend.length ≤ 1000000000) (h3 : m.names.length ≤ 1000000000) :
    Calls Tryz.prog 105 #[ptrV a0, ptrV b0, ptrV d0] w fun e w' => e = .returned (.tuple #[]) ∧ DkTo w d own w' (m.doRename n to) := by
  have c0 : w.cell? ⟨a0, 0, none⟩ = some (.pointer (some ⟨d, 0, none⟩)) := ha.cell 0
  have c1 : w.cell? ⟨b0, 0, none⟩ = some (.string ⟨to.toArray⟩) := hb.cell 0
  have c2 : w.cell? ⟨d, 2, none⟩ = some (.int .i64 m.used) := h.cell 2
  have f2 := h.top.free 2
  have HSZ := Lib.hid (size_any w h (n := to) (by unfold maxLen; omega))
  have HDK := Lib.hid h
  have HA := Lib.hid (And.intro ha (And.intro hb (And.intro hd ho)))
  have HB := Lib.hid (And.intro h2 (And.intro h3 (And.intro hn ht)))
  clear h ha hb hd ho h2 h3 hn ht
  generalize hmd : m.used = us at c2
  have HMD := Lib.hid hmd
  clear hmd
  generalize hsz : (m.size to).1 = sz at HSZ
  have HSE := Lib.hid hsz
  clear hsz
  generalize (m.size to).2 = sb at HSZ
  unfold ptrV
  go_enter Tryz.func105, Tryz.ntmps105
  go_wp2_with (fail)
  refine HSZ.out.mono ?_
  rintro e w2 ⟨rfl, rfl⟩
  clear HSZ
  go_wp2_with (fail)
  obtain ⟨w3, hw3⟩ : ∃ w3, w.setCell ⟨d, 2, none⟩ (.int .i64 (wrap64 (us - sz))) = w3 := ⟨_, rfl⟩
  rw [hw3]
  have hne : ∀ k, k = a0 ∨ k = b0 ∨ k = d0 → k ≠ d := fun k hk => (HA.out.2.2.2 k hk).1
  have h3 : DkAt w3 d own G { m with used := wrap64 (us - sz) } := hw3 ▸ HDK.out.set 2 _ rfl rfl rfl rfl rfl rfl
  have s3 : Spares (fun k => k = d) w w3 := hw3 ▸ (Spares.refl (fun k => k = d) w).setCell (p := ⟨d, 2, none⟩) rfl _
  have ka : Whole w3 a0 24 #[ptrV d] := HA.out.1.same (s3.same a0 HA.out.1.lt (hne a0 (.inl rfl)))
  have kb : Whole w3 b0 9 #[strB to] := HA.out.2.1.same (s3.same b0 HA.out.2.1.lt (hne b0 (.inr (.inl rfl))))
  have kd : Whole w3 d0 9 #[strB n] := HA.out.2.2.1.same (s3.same d0 HA.out.2.2.1.lt (hne d0 (.inr (.inr rfl))))
  have HC3 := Lib.hid (show ∀ w', Grows w3 w' → w'.cell? ⟨a0, 0, none⟩ = some (.pointer (some ⟨d, 0, none⟩)) ∧ w'.cell? ⟨d0, 0, none⟩ = some (.string ⟨n.toArray⟩) ∧ w'.cell? ⟨b0, 0, none⟩ = some (.string ⟨to.toArray⟩) from fun w' hg => ⟨hg.cellq ka, hg.cellq kd, hg.cellq kb⟩)
  have H3 := Lib.hid h3
  have S3 := Lib.hid s3
  clear h3 s3 ka kb kd hne hw3 c2 f2 c0 c1
  refine wp_region_facts_tail (E := Grows) 4 [valFact (.pointer (some ⟨d, 0, none⟩)), valFact (.string ⟨n.toArray⟩), valFact (.string ⟨to.toArray⟩), movedFact w3.heap.size n to] mixed (by kernel_rfl) (fun _ _ _ => Grows.trans) (grows_drew _) ?_
  simp only [List.take_succ_cons, List.take_zero, List.drop_succ_cons, List.drop_zero]
  refine f_val (.pointer (some ⟨d, 0, none⟩)) (by rfl) ?_ ?_
  · intro w' hC; obtain ⟨q1, q2, q3⟩ := HC3.out w' hC; clear hC; go_simp
  simp only [Act.put, List.setIfInBounds_toArray, List.set_cons_zero, List.set_cons_succ]
  refine f_val (.string ⟨n.toArray⟩) (by rfl) ?_ ?_
  · intro w' hC; obtain ⟨q1, q2, q3⟩ := HC3.out w' hC; clear hC; go_simp
  simp only [Act.put, List.setIfInBounds_toArray, List.set_cons_zero, List.set_cons_succ]
  refine f_val (.string ⟨to.toArray⟩) (by rfl) ?_ ?_
  · intro w' hC; obtain ⟨q1, q2, q3⟩ := HC3.out w' hC; clear hC; go_simp
  simp only [Act.put, List.setIfInBounds_toArray, List.set_cons_zero, List.set_cons_succ]
  refine f_tell (by rfl) ?_ ?_
  · intro w' hC _
    refine gives_call (f := 106) (args := #[.string ⟨n.toArray⟩, .string ⟨to.toArray⟩]) (by clear hC; go_simp) ?_
    refine (moved_any n to w' HB.out.2.2.1 HB.out.2.2.2).mono ?_
    rintro e w'' ⟨a, b, rfl, k1, k2, k3, k4, k5⟩
    exact ⟨k5, (a, b), rfl, k1, k2, Nat.le_trans hC.size k3, Nat.le_trans hC.size k4⟩
  rintro ⟨a2, b2⟩
  show wpF _ _ _ _ _ _ _ _ (Act.put _ _ (.func (.func 144) #[] #[.pointer (some ⟨a2, 0, none⟩), .pointer (some ⟨b2, 0, none⟩)]))
  simp only [Act.put, List.setIfInBounds_toArray, List.set_cons_zero, List.set_cons_succ]
  refine wpF_end ?_
  intro w4 hC hks
  have HCw4 := Lib.hid hC
  have HF := Lib.hid (Known.at hks 0 rfl)
  clear hC hks
  have hch : ChAt w4 (fun k => own k ∨ k = a2 ∨ k = b2) m.made G.loc (.func (.func 144) #[] #[.pointer (some ⟨a2, 0, none⟩), .pointer (some ⟨b2, 0, none⟩)]) (.moved n to) :=
    ⟨by have := HB.out.2.2.1; unfold maxLen; omega, by have := HB.out.2.2.2; unfold maxLen; omega, a2, b2, rfl, .inr (.inl rfl), .inr (.inr rfl), HF.out.1, HF.out.2.1⟩
  have HCH := Lib.hid (change_at H3.out HCw4.out (fun k => k = a2 ∨ k = b2) (fun k hk => by
    rcases hk with rfl | rfl
    · exact ⟨HF.out.2.2.1, HF.out.1.lt⟩
    · exact ⟨HF.out.2.2.2, HF.out.2.1.lt⟩) hch HB.out.1 HB.out.2.1)
  clear hch
  go_wp2_with (fail)
  refine HCH.out.mono ?_
  rintro e w5 ⟨rfl, h5⟩
  have H5 := Lib.hid h5
  clear h5
  go_wp2_with (fail)
  go_end0
  obtain rfl := HMD.out
  obtain rfl := HSE.out
  exact ⟨rfl, DkTo.behind S3.out H5.out⟩
end
end Go.Proofs.YtdkpbphgaenlnaaGreat


/-
  Names are kept as they were behind so many changes.
-/
namespace Go.Proofs.YtdkpbphgaenlnaaGreat
open Go.RowKit Go.Maps Go.WideMaps
set_option linter.unusedVariables false
set_option linter.unusedSimpArgs false
attribute [local irreducible] Go.wpQuiet

section
variable {w : World} {d : Nat} {own : Nat → Prop} {G : Geo} {m : Dk}

/-- A change's function, called on a map of names. -/
theorem redo_take {cs : List Ch} {l : Dir} {j : Nat} {c : Ch} (h : cs[j]? = some c) : redo (cs.take (j + 1)) l = c.on (redo (cs.take j) l) := by
  unfold redo
  have hj : j < cs.length := (List.getElem?_eq_some_iff.1 h).1
  rw [List.take_add_one, h]
  simp

theorem put_short (n : Nm) (f : Nat) (l : Dir) : (Dir.put n f l).length ≤ l.length + 1 := by
  have h1 : ∀ (x : Nm × Nat) (l : Dir), (Dir.ins x l).length = l.length + 1 := fun x l => by
    induction l with
    | nil => rfl
    | cons y r ih => unfold Dir.ins; split <;> simp [*]
  have h2 : (Dir.del n l).length ≤ l.length := List.length_filter_le _ _
  unfold Dir.put
  rw [h1]
  omega
theorem on_short (c : Ch) (l : Dir) : (c.on l).length ≤ l.length + 1 := by
  cases c with
  | made n f => exact put_short n f l
  | taken n => exact Nat.le_trans (List.length_filter_le _ _) (Nat.le_succ _)
  | moved n to =>
    simp only [Ch.on]
    split
    · exact Nat.le_trans (put_short _ _ _) (Nat.succ_le_succ (List.length_filter_le _ _))
    · exact Nat.le_succ _
theorem redo_short : ∀ (cs : List Ch) (l : Dir) {n : Nat}, l.length + cs.length ≤ n → (redo cs l).length ≤ n
  | [], l, n, h => by simpa [redo] using h
  | c :: cs, l, n, h => by
    have := on_short c l
    show (redo cs (c.on l)).length ≤ n
    refine redo_short cs _ ?_
    simp only [List.length_cons] at h
    omega

/-- Behind a change of what is kept. -/
theorem kept_of {w w' : World} {n : Nat} {l : Dir} (h : DkAt w d own G m) (hn : OwnsN w' m.made G.loc G.kb n l) (ht : w.mapTurned w' G.kb) : DkAt w' d own G { m with kept := l } := by
  have hsz : w.heap.size ≤ w'.heap.size := ht.grown.size
  refine ⟨h.rest.keptN hn (fun k hk hne => ht.grown.block k hk fun e => hne (by injection e)) hsz, ?_, h.free⟩
  exact h.top.same (ht.grown.block d h.top.lt fun e => h.free (by injection e with e; exact e ▸ h.rest.ok))

theorem pend_row (h : DkAt w d own G m) {A : Option Addr} {c : Nat} (hA : G.pv = .slice A m.pend.length c) {j : Nat} (hj : j < m.pend.length) : ∃ ad v x, A = some ad ∧ w.cell? (ad.add j) = some v ∧ m.pend[j]? = some x ∧ ChAt w own m.made G.loc v x ∧ ad.block < w.heap.size := by
  have hr := h.rest.pend
  rw [hA] at hr
  have hrow := Row.owned hr
  obtain ⟨v, hv⟩ : ∃ v, G.pvs[j]? = some v := ⟨G.pvs[j]'(by have := h.rest.nlen; omega), by simp⟩
  obtain ⟨x, hx⟩ : ∃ x, m.pend[j]? = some x := ⟨m.pend[j], by simp⟩
  obtain ⟨ad, he, hb, hc⟩ := Row.spot hrow j v hv
  exact ⟨ad, v, x, he, hc, hx, h.rest.chs j v x hv hx, hb⟩

set_option maxHeartbeats 4000000 in
set_option maxRecDepth 100000 in
theorem keep_names (w : World) (h : DkAt w d own G m) {k : Nat} (hk : k ≤ m.pend.length) (h1 : m.pend.length ≤ 1000000000) (h2 : m.kept.length ≤ 1000000000) :
    Calls Tryz.prog 59 #[.pointer (some ⟨d, 0, none⟩), .int .i64 (k : Int)] w fun e w' => e = .returned (.tuple #[]) ∧ DkTo w d own w' (m.keep k) := by
  obtain ⟨A, c, hA, hbare⟩ := slice_of_owned h.rest.pend
  have c5 : w.cell? ⟨d, 5, none⟩ = some (.slice A m.pend.length c) := by rw [← hA]; exact h.cell 5
  have hcap : m.pend.length ≤ c := by
    have := h.rest.pend
    rw [hA] at this
    rcases this.2 with ⟨e, e2⟩ | ⟨g, cap, cur, e, _, _, e2, _⟩
    · injection e with _ e _; omega
    · injection e with _ _ e; omega
  have H := Lib.hid (And.intro h hA)
  have hdlt := h.top.lt
  clear h hA
  generalize hN : m.pend.length = N at *
  have HN := Lib.hid hN
  clear hN
  have HB := Lib.hid (And.intro hdlt hbare)
  clear hdlt hbare
  have hk1 : (k : Int) ≤ (c : Int) := by omega
  have hk0 : (0 : Int) ≤ (k : Int) := by omega
  go_enter Tryz.func59, Tryz.ntmps59
  go_wp2_with (fail)
  go_loopw [13] (fun vi wr => ∃ (j : Nat), j ≤ k ∧ vi = .int .i64 (j : Int) ∧ Hid (DkAt wr d own G { m with kept := redo (m.pend.take j) m.kept }) ∧ Hid (Spares (fun x => x = G.kb) w wr)) (fun i _ => k - (intOf i).toNat)
  case atStart => exact ⟨0, by omega, rfl, Lib.hid (by exact H.out.1), Lib.hid (Spares.refl _ _)⟩
  case round =>
    obtain ⟨j, hj, rfl, HD, HS⟩ := hrel
    by_cases hlt : j < k
    · have hlt' : (j : Int) < (k : Int) := by omega
      obtain ⟨ad, v, x, rfl, hv, hx, hch, hab⟩ := pend_row HD.out (A := A) (c := c) (by rw [H.out.2, ← HN.out]) (show j < m.pend.length by rw [HN.out]; omega)
      have c4 : wr.cell? ⟨d, 4, none⟩ = some (.map (some G.kb)) := HD.out.cell 4
      have HX := Lib.hid hx
      have hlen : (redo (m.pend.take j) m.kept).length ≤ 2000000000 := redo_short _ _ (by have := HN.out; rw [List.length_take]; omega)
      have hk := HD.out.rest.kept
      have hin := HD.out.rest.inj
      dsimp only at hk hin hch
      have HAB := Lib.hid hab
      clear hx hab
      have HC := Lib.hid hch
      clear hch
      cases x with
      | taken n =>
        obtain ⟨q1, a, rfl, _, hwa⟩ := HC.out
        have HM := Lib.hid (taken_map wr hk q1 hwa)
        clear hwa hk hin HC
        unfold ptrV at *
        go_wp2_with (first | (go_at_call 164; refine HM.out.mono ?_; rintro e w1 ⟨rfl, hn1, ht1⟩; have HN1 := Lib.hid hn1; have HT1 := Lib.hid ht1; clear hn1 ht1))
        go_roundw
        case rel =>
          refine ⟨j + 1, by omega, by go_num, Lib.hid ?_, Lib.hid ?_⟩
          · have := kept_of HD.out HN1.out HT1.out
            rw [redo_take HX.out]
            exact this
          · exact HS.out.grown HT1.out.grown fun g e => by injection e with e; exact e.symm
        case measure => simp [intOf]; omega
      | made n f =>
        obtain ⟨q1, q2, a, b, rfl, _, _, hwb, hwa⟩ := HC.out
        have HM := Lib.hid (made_map wr hin hk (by unfold maxLen; omega) q1 q2 hwa hwb)
        clear hwa hwb hk hin HC
        unfold ptrV at *
        go_wp2_with (first | (go_at_call 115; refine HM.out.mono ?_; rintro e w1 ⟨rfl, hn1, ht1⟩; have HN1 := Lib.hid hn1; have HT1 := Lib.hid ht1; clear hn1 ht1))
        go_roundw
        case rel =>
          refine ⟨j + 1, by omega, by go_num, Lib.hid ?_, Lib.hid ?_⟩
          · have := kept_of HD.out HN1.out HT1.out
            rw [redo_take HX.out]
            exact this
          · exact HS.out.grown HT1.out.grown fun g e => by injection e with e; exact e.symm
        case measure => simp [intOf]; omega
      | moved n to =>
        obtain ⟨q1, q2, a, b, rfl, _, _, hwa, hwb⟩ := HC.out
        have HM := Lib.hid (moved_map wr hin hk (by unfold maxLen; omega) q1 q2 hwa hwb)
        clear hwa hwb hk hin HC
        unfold ptrV at *
        go_wp2_with (first | (go_at_call 144; refine HM.out.mono ?_; rintro e w1 ⟨rfl, hn1, ht1⟩; have HN1 := Lib.hid hn1; have HT1 := Lib.hid ht1; clear hn1 ht1))
        go_roundw
        case rel =>
          refine ⟨j + 1, by omega, by go_num, Lib.hid ?_, Lib.hid ?_⟩
          · have := kept_of HD.out HN1.out HT1.out
            rw [redo_take HX.out]
            exact this
          · exact HS.out.grown HT1.out.grown fun g e => by injection e with e; exact e.symm
        case measure => simp [intOf]; omega
    · obtain rfl : j = k := by omega
      have c5 : wr.cell? ⟨d, 5, none⟩ = some G.pv := HD.out.cell 5
      have f5 := HD.out.top.free 5
      go_wp2_with (fail)
      go_end0
      refine ⟨rfl, own, { G with pv := .slice none 0 0, pvs := [] }, ⟨?_, ?_, HD.out.free⟩, ?_, fun k hk => .inl hk⟩
      · have h1 : DkRest (wr.setCell ⟨d, 5, none⟩ (.slice none 0 0)) own G { m with kept := redo (m.pend.take j) m.kept } :=
          HD.out.rest.stay (fun k hk => Below.heap_setCell _ _ _ _ fun e => HD.out.free (by have e : k = d := e; exact e ▸ hk)) (by simp [World.setCell])
        exact h1.pends (pv := .slice none 0 0) (pvs := []) (cs := []) ⟨rfl, .inl ⟨rfl, rfl⟩⟩ (fun k hk => by cases hk) (Nat.le_refl _) (fun _ _ _ => rfl) (fun i v c h1 h2 => by simp at h1)
      · exact HD.out.top.put 5 _
      · exact (HS.out.wider (own' := fun x => x = d ∨ own x) fun x _ e => .inr (e ▸ H.out.1.rest.ok)).setCell (p := ⟨d, 5, none⟩) (.inl rfl) _
end
end Go.Proofs.YtdkpbphgaenlnaaGreat

/-
  The six things.
-/
namespace Go.Proofs.YtdkpbphgaenlnaaGreat
open Go.RowKit Go.Maps Go.WideMaps
set_option linter.unusedVariables false
set_option linter.unusedSimpArgs false
attribute [local irreducible] Go.wpQuiet

section
variable {w : World} {d : Nat} {own : Nat → Prop} {G : Geo} {m : Dk}
set_option maxHeartbeats 4000000 in
set_option maxRecDepth 100000 in
theorem syncdir_do (w : World) (h : DkAt w d own G m) {a0 : Nat} (ha : Whole w a0 24 #[ptrV d]) (h1 : m.pend.length ≤ 1000000000) (h2 : m.kept.length ≤ 1000000000) :
    Calls Tryz.prog 107 #[ptrV a0] w fun e w' => e = .returned (.tuple #[]) ∧ DkTo w d own w' (m.keep m.pend.length) := by
  obtain ⟨A, c, hA, _⟩ := slice_of_owned h.rest.pend
  have HCL := Lib.hid (show ∀ w', Grows w w' → w'.cell? ⟨a0, 0, none⟩ = some (.pointer (some ⟨d, 0, none⟩)) ∧ w'.cell? ⟨d, 5, none⟩ = some (.slice A m.pend.length c) from fun w' hg => ⟨hg.cellq ha, by rw [← hA]; exact hg.cellq h.top⟩)
  have HK := Lib.hid (fun w2 hg => keep_names (k := m.pend.length) w2 (DkAt.grow h hg) (Nat.le_refl _) h1 h2)
  have HDK := Lib.hid h
  clear h ha h1 h2 hA
  generalize m.pend.length = N at *
  unfold ptrV
  go_enter Tryz.func107, Tryz.ntmps107
  go_wp2_with (fail)
  refine wp_region_facts_tail (E := Grows) 6 [valFact (.pointer (some ⟨d, 0, none⟩)), valFact (.pointer (some ⟨d, 0, none⟩)), valFact (.pointer (some ⟨d, 0, none⟩)), valFact (.pointer (some ⟨d, 5, none⟩)), valFact (.slice A N c), valFact (.int .i64 (N : Int))] mixed (by kernel_rfl) (fun _ _ _ => Grows.trans) (grows_drew _) ?_
  simp only [List.take_succ_cons, List.take_zero, List.drop_succ_cons, List.drop_zero]
  refine f_val (.pointer (some ⟨d, 0, none⟩)) (by rfl) ?_ ?_
  · intro w' hC; obtain ⟨q1, q2⟩ := HCL.out w' hC; clear hC; go_simp
  simp only [Act.put, List.setIfInBounds_toArray, List.set_cons_zero, List.set_cons_succ]
  refine f_val (.pointer (some ⟨d, 0, none⟩)) (by rfl) ?_ ?_
  · intro w' hC; obtain ⟨q1, q2⟩ := HCL.out w' hC; clear hC; go_simp
  simp only [Act.put, List.setIfInBounds_toArray, List.set_cons_zero, List.set_cons_succ]
  refine f_val (.pointer (some ⟨d, 0, none⟩)) (by rfl) ?_ ?_
  · intro w' hC; obtain ⟨q1, q2⟩ := HCL.out w' hC; clear hC; go_simp
  simp only [Act.put, List.setIfInBounds_toArray, List.set_cons_zero, List.set_cons_succ]
  refine f_val (.pointer (some ⟨d, 5, none⟩)) (by rfl) ?_ ?_
  · intro w' hC; obtain ⟨q1, q2⟩ := HCL.out w' hC; clear hC; go_simp
  simp only [Act.put, List.setIfInBounds_toArray, List.set_cons_zero, List.set_cons_succ]
  refine f_val (.slice A N c) (by rfl) ?_ ?_
  · intro w' hC; obtain ⟨q1, q2⟩ := HCL.out w' hC; clear hC; go_simp
  simp only [Act.put, List.setIfInBounds_toArray, List.set_cons_zero, List.set_cons_succ]
  refine f_val (.int .i64 (N : Int)) (by rfl) ?_ ?_
  · intro w' hC; clear hC; go_simp
  simp only [Act.put, List.setIfInBounds_toArray, List.set_cons_zero, List.set_cons_succ]
  refine wpF_end ?_
  intro w2 hC hks
  have HCw2 := Lib.hid hC
  clear hC hks
  go_wp2_with (fail)
  refine (HK.out w2 HCw2.out).mono ?_
  rintro e w5 ⟨rfl, h5⟩
  have H5 := Lib.hid h5
  clear h5 HK
  go_wp2_with (fail)
  go_end0
  refine ⟨rfl, ?_⟩
  obtain ⟨own', G', k1, k2, k3⟩ := H5.out
  exact ⟨own', G', k1, (Spares.grows HCw2.out).trans k2, fun k hk => (k3 k hk).imp id fun h => Nat.le_trans HCw2.out.size h⟩

/-- From a world that has grown. -/
theorem Did.behind {w w1 w' : World} {r : Dk × Int} {e : Ending} (hg : Grows w w1) (h : Did w1 d own r e w') : Did w d own r e w' := by
  obtain ⟨h1, own', G', k1, k2, k3⟩ := h
  exact ⟨h1, own', G', k1, (Spares.grows hg).trans k2, fun k hk => (k3 k hk).imp id fun h => Nat.le_trans hg.size h⟩
theorem Did.none {w w' : World} (h : DkAt w d own G m) (hg : Grows w w') (e : Int) : Did w d own (m, e) (.returned (.int .i64 e)) w' := ⟨rfl, own, G, h.grow hg, Spares.grows hg, fun k hk => .inl hk⟩

/-- Numbers that a disk holds are not too great. -/
structure DkFit (m : Dk) : Prop where
  cut : -1 ≤ m.cut ∧ m.cut ≤ 9223372036854775807
  fail : -1 ≤ m.fail ∧ m.fail ≤ 9223372036854775807
  made : m.made ≤ 1000000000
  pend : m.pend.length ≤ 1000000000
  names : m.names.length ≤ 1000000000
  kept : m.kept.length ≤ 1000000000
  bytes : ∀ i, i < m.made → (m.files i).bytes.length ≤ 1000000000 ∧ (m.files i).kept ≤ (m.files i).bytes.length
theorem DkFit.sooner (h : DkFit m) (hc : m.cut ≠ 0) (hf : m.fail ≠ 0) : DkFit m.sooner := by
  have h1 := h.cut
  have h2 := h.fail
  refine ⟨?_, ?_, h.made, h.pend, h.names, h.kept, h.bytes⟩
  · show -1 ≤ Go.Proofs.YtdkpbphgaenlnaaGreat.sooner m.cut ∧ Go.Proofs.YtdkpbphgaenlnaaGreat.sooner m.cut ≤ _
    unfold Go.Proofs.YtdkpbphgaenlnaaGreat.sooner
    split <;> omega
  · show -1 ≤ Go.Proofs.YtdkpbphgaenlnaaGreat.sooner m.fail ∧ Go.Proofs.YtdkpbphgaenlnaaGreat.sooner m.fail ≤ _
    unfold Go.Proofs.YtdkpbphgaenlnaaGreat.sooner
    split <;> omega

set_option maxHeartbeats 4000000 in
set_option maxRecDepth 100000 in
theorem syncDir_any (w : World) (h : DkAt w d own G m) (hF : DkFit m) : Calls Tryz.prog 49 #[.pointer (some ⟨d, 0, none⟩)] w fun e w' => Did w d own m.syncDir e w' := by
  have hg : Grows w (w.alloc (.cells #[.pointer (some ⟨d, 0, none⟩)] 24)) := grows_alloc _ _
  have ha : Whole (w.alloc (.cells #[.pointer (some ⟨d, 0, none⟩)] 24)) w.heap.size 24 #[ptrV d] := Whole.made _ _ _
  have HT := Lib.hid (thing_any _ (h.grow hg) hF.cut hF.fail 107 #[] #[.pointer (some ⟨w.heap.size, 0, none⟩)] (fun args w => by kernel_rfl) (fun m => m.keep m.pend.length)
    fun _ hc hf w1 h1 s1 => syncdir_do w1 h1 (ha.same (s1.same _ ha.lt (by have := h.top.lt; omega))) hF.pend hF.kept)
  clear h hF ha hg
  go_enter Tryz.func49, Tryz.ntmps49
  go_wp2_with (fail)
  refine HT.out.mono ?_
  rintro e w2 ⟨rfl, h2⟩
  have H2 := Lib.hid h2
  clear h2 HT
  go_wp2_with (fail)
  go_ret
  exact Did.behind (grows_alloc _ _) ⟨rfl, H2.out⟩

set_option maxHeartbeats 8000000 in
set_option maxRecDepth 100000 in
theorem create_any (w : World) (n : Nm) (h : DkAt w d own G m) (hF : DkFit m) (hn : n.length ≤ 1000000) : Calls Tryz.prog 19 #[.pointer (some ⟨d, 0, none⟩), .string ⟨n.toArray⟩] w fun e w' => Did w d own (m.create n) e w' := by
  have hg : Grows w ((w.alloc (.cells #[.pointer (some ⟨d, 0, none⟩)] 24)).alloc (.cells #[.string ⟨n.toArray⟩] 9)) := (grows_alloc _ _).trans (grows_alloc _ _)
  have ha : Whole ((w.alloc (.cells #[.pointer (some ⟨d, 0, none⟩)] 24)).alloc (.cells #[.string ⟨n.toArray⟩] 9)) w.heap.size 24 #[ptrV d] := (Whole.made _ _ _).alloc _
  have hb : Whole ((w.alloc (.cells #[.pointer (some ⟨d, 0, none⟩)] 24)).alloc (.cells #[.string ⟨n.toArray⟩] 9)) (w.heap.size + 1) 9 #[strB n] := by
    have := Whole.made (w.alloc (.cells #[.pointer (some ⟨d, 0, none⟩)] 24)) 9 #[strB n]
    rwa [World.size_alloc] at this
  have hnm : n.length ≤ maxLen := by unfold maxLen; omega
  have h0 := h.grow hg
  have HT := Lib.hid (fun w3 (g3 : Grows ((w.alloc (.cells #[.pointer (some ⟨d, 0, none⟩)] 24)).alloc (.cells #[.string ⟨n.toArray⟩] 9)) w3) => thing_any w3 (h0.grow g3) hF.cut hF.fail 68 #[] #[.pointer (some ⟨w.heap.size, 0, none⟩), .pointer (some ⟨w.heap.size + 1, 0, none⟩)] (fun args w => by kernel_rfl) (Dk.doCreate n)
    fun _ hc hf w1 h1 s1 => by
      have hl := h.top.lt
      refine create_do w1 h1 ((g3.whole ha).same (s1.same _ (g3.whole ha).lt (by omega))) ((g3.whole hb).same (s1.same _ (g3.whole hb).lt (by omega))) ?_ hn hF.made hF.pend hF.names
      rintro k (rfl | rfl)
      · exact ⟨by omega, fun e => by have := h.rest.lt _ e; omega⟩
      · exact ⟨by omega, fun e => by have := h.rest.lt _ e; omega⟩)
  have c9 : ((w.alloc (.cells #[.pointer (some ⟨d, 0, none⟩)] 24)).alloc (.cells #[.string ⟨n.toArray⟩] 9)).cell? ⟨d, 9, none⟩ = some (.bool m.down) := h0.cell 9
  have HDK := Lib.hid (And.intro h hg)
  unfold Dk.create
  cases hd : m.down with
  | true =>
    rw [hd] at c9
    rw [if_pos rfl]
    clear h hF ha hb hn hnm h0 HT hg hd
    go_enter Tryz.func19, Tryz.ntmps19
    go_wp2
    go_ret
    exact Did.none HDK.out.1 HDK.out.2 82
  | false =>
  rw [hd] at c9
  rw [if_neg (by decide)]
  have HR := Lib.hid (right_any n)
  cases hr : right n with
  | false =>
    rw [hr] at HR
    rw [if_pos rfl]
    clear h hF ha hb hn hnm h0 HT hg hd hr
    go_enter Tryz.func19, Tryz.ntmps19
    go_wp2_with (fail)
    refine (HR.out _).mono ?_
    rintro e w2 ⟨rfl, rfl⟩
    go_wp2_with (fail)
    go_ret
    exact Did.none HDK.out.1 HDK.out.2 1
  | true =>
  rw [hr] at HR
  rw [if_neg (by decide)]
  have HL := Lib.hid (show ∀ w', Grows ((w.alloc (.cells #[.pointer (some ⟨d, 0, none⟩)] 24)).alloc (.cells #[.string ⟨n.toArray⟩] 9)) w' → (Instr.lookup 68 (.map (some G.nb)) (.string ⟨n.toArray⟩) false).run Tryz.prog w' = .ok (fileV G.loc m.names n) w' ∧
      w'.cell? ⟨d, 3, none⟩ = some (.map (some G.nb)) ∧ w'.cell? ⟨w.heap.size, 0, none⟩ = some (.pointer (some ⟨d, 0, none⟩)) ∧ w'.cell? ⟨w.heap.size + 1, 0, none⟩ = some (.string ⟨n.toArray⟩) from fun w' hg' => ⟨(h0.grow hg').look1 hnm, hg'.cellq h0.top, hg'.cellq ha, hg'.cellq hb⟩)
  have HLT := Lib.hid (fun f => h.find_lt (f := f) hnm)
  clear ha hb hn hnm hF
  cases hf : Dir.find n m.names with
  | some f =>
    rw [fileV_some hf] at HL
    rw [if_pos (show (some f).isSome = true from rfl)]
    unfold ptrV at HL
    clear h h0 HT hg hd hr hf
    go_enter Tryz.func19, Tryz.ntmps19
    go_wp2_with (fail)
    refine (HR.out _).mono ?_
    rintro e w2 ⟨rfl, rfl⟩
    go_wp2_with (fail)
    refine q_region mixed (by kernel_rfl) ?_
    iterate 8 (refine q_op' (v := ?_) (a' := ?_) (by rfl) ?_ ?_ ?_
               rotate_left 2
               · intro w' hC
                 obtain ⟨z0, z1, z2, z3⟩ := HL.out w' hC
                 clear hC
                 go_simp
                 try with_reducible rfl
               · simp only [Act.put, List.setIfInBounds_toArray, List.set_cons_zero, List.set_cons_succ]
                 try rfl)
    refine wpQuiet_nil ?_
    intro w3 hC
    have HCw3 := Lib.hid hC
    clear hC
    go_wp2_with (fail)
    go_ret
    exact Did.none HDK.out.1 (HDK.out.2.trans HCw3.out) 4
  | none =>
  rw [fileV_none hf] at HL
  rw [if_neg (by decide)]
  have HM := Lib.hid h0.rest.names
  by_cases hlen : 4096 ≤ m.names.length
  · rw [if_pos hlen]
    have d1 : decide ((m.names.length : Int) ≥ 4096) = true := decide_eq_true (by omega)
    clear h h0 HT hg hd hr hf hlen
    generalize hnl : m.names.length = nl at *
    have HNL := Lib.hid hnl
    clear hnl
    go_enter Tryz.func19, Tryz.ntmps19
    go_wp2_with (fail)
    refine (HR.out _).mono ?_
    rintro e w2 ⟨rfl, rfl⟩
    go_wp2_with (fail)
    refine q_region mixed (by kernel_rfl) ?_
    iterate 8 (refine q_op' (v := ?_) (a' := ?_) (by rfl) ?_ ?_ ?_
               rotate_left 2
               · intro w' hC
                 obtain ⟨z0, z1, z2, z3⟩ := HL.out w' hC
                 clear hC
                 go_simp
                 try with_reducible rfl
               · simp only [Act.put, List.setIfInBounds_toArray, List.set_cons_zero, List.set_cons_succ]
                 try rfl)
    refine wpQuiet_nil ?_
    intro w3 hC
    have HCw3 := Lib.hid hC
    clear hC
    obtain ⟨_, z1, z2, z3⟩ := HL.out w3 HCw3.out
    have hm3 : OwnsDir w3 m.made G.loc G.nb m.names := map_same HM.out (HCw3.out.block _ (World.ownsMap.lt HM.out))
    have HLE := Lib.hid (fun ty => World.ownsMap.len hm3 Tryz.underlying68 ty)
    rw [size_enc, HNL.out] at HLE
    have hle := HLE.out
    clear hm3 HLE
    go_wp2_with (fail)
    go_ret
    exact Did.none HDK.out.1 (HDK.out.2.trans HCw3.out) 2
  · rw [if_neg hlen]
    have d1 : decide ((m.names.length : Int) ≥ 4096) = false := decide_eq_false (by omega)
    clear h h0 hg hd hr hf hlen
    generalize hnl : m.names.length = nl at *
    have HNL := Lib.hid hnl
    clear hnl
    go_enter Tryz.func19, Tryz.ntmps19
    go_wp2_with (fail)
    refine (HR.out _).mono ?_
    rintro e w2 ⟨rfl, rfl⟩
    go_wp2_with (fail)
    refine q_region mixed (by kernel_rfl) ?_
    iterate 8 (refine q_op' (v := ?_) (a' := ?_) (by rfl) ?_ ?_ ?_
               rotate_left 2
               · intro w' hC
                 obtain ⟨z0, z1, z2, z3⟩ := HL.out w' hC
                 clear hC
                 go_simp
                 try with_reducible rfl
               · simp only [Act.put, List.setIfInBounds_toArray, List.set_cons_zero, List.set_cons_succ]
                 try rfl)
    refine wpQuiet_nil ?_
    intro w3 hC
    have HCw3 := Lib.hid hC
    clear hC
    obtain ⟨_, z1, z2, z3⟩ := HL.out w3 HCw3.out
    have hm3 : OwnsDir w3 m.made G.loc G.nb m.names := map_same HM.out (HCw3.out.block _ (World.ownsMap.lt HM.out))
    have HLE := Lib.hid (fun ty => World.ownsMap.len hm3 Tryz.underlying68 ty)
    rw [size_enc, HNL.out] at HLE
    have hle := HLE.out
    clear hm3 HLE
    go_wp2_with (fail)
    refine (HT.out w3 HCw3.out).mono ?_
    rintro e w4 ⟨rfl, h4⟩
    have H4 := Lib.hid h4
    clear h4 HT
    go_wp2_with (fail)
    go_ret
    exact Did.behind (HDK.out.2.trans HCw3.out) ⟨rfl, H4.out⟩
end
end Go.Proofs.YtdkpbphgaenlnaaGreat


/-
  The things done to a file that is there: Append, Sync, Rename, Remove.
-/
namespace Go.Proofs.YtdkpbphgaenlnaaGreat
open Go.RowKit Go.Maps Go.WideMaps
set_option linter.unusedVariables false
set_option linter.unusedSimpArgs false
attribute [local irreducible] Go.wpQuiet

section
variable {w : World} {d : Nat} {own : Nat → Prop} {G : Geo} {m : Dk}

/-- What find tells, in three ways. -/
theorem find_down (w : World) {n : Nm} (h : DkAt w d own G m) (hn : n.length ≤ maxLen) (hd : m.down = true) : Calls Tryz.prog 102 #[.pointer (some ⟨d, 0, none⟩), .string ⟨n.toArray⟩] w fun e w' => e = .returned (.tuple #[.pointer none, .int .i64 82]) ∧ w = w' := by
  have := find_any w h hn
  rwa [hd] at this
theorem find_none (w : World) {n : Nm} (h : DkAt w d own G m) (hn : n.length ≤ maxLen) (hd : m.down = false) (hf : Dir.find n m.names = none) : Calls Tryz.prog 102 #[.pointer (some ⟨d, 0, none⟩), .string ⟨n.toArray⟩] w fun e w' => e = .returned (.tuple #[.pointer none, .int .i64 3]) ∧ w = w' := by
  have := find_any w h hn
  rw [hd, hf, fileV_none hf] at this
  exact this
theorem find_some (w : World) {n : Nm} {f : Nat} (h : DkAt w d own G m) (hn : n.length ≤ maxLen) (hd : m.down = false) (hf : Dir.find n m.names = some f) : Calls Tryz.prog 102 #[.pointer (some ⟨d, 0, none⟩), .string ⟨n.toArray⟩] w fun e w' => e = .returned (.tuple #[.pointer (some ⟨G.loc f, 0, none⟩), .int .i64 0]) ∧ w = w' := by
  have := find_any w h hn
  rw [hd, hf, fileV_some hf] at this
  exact this

set_option maxHeartbeats 8000000 in
set_option maxRecDepth 100000 in
theorem sync_any (w : World) (n : Nm) (h : DkAt w d own G m) (hF : DkFit m) (hn : n.length ≤ maxLen) : Calls Tryz.prog 46 #[.pointer (some ⟨d, 0, none⟩), .string ⟨n.toArray⟩] w fun e w' => Did w d own (m.sync n) e w' := by
  have HDK := Lib.hid h
  unfold Dk.sync
  cases hd : m.down with
  | true =>
    have HFI := Lib.hid (find_down w h hn hd)
    rw [if_pos rfl]
    clear h hF hn hd
    go_enter Tryz.func46, Tryz.ntmps46
    go_wp2_with (fail)
    refine HFI.out.mono ?_
    rintro e w2 ⟨rfl, rfl⟩
    go_wp2_with (fail)
    go_ret
    exact Did.none HDK.out (Grows.refl _) 82
  | false =>
  rw [if_neg (by decide)]
  cases hf : Dir.find n m.names with
  | none =>
    have HFI := Lib.hid (find_none w h hn hd hf)
    dsimp only
    clear h hF hn hd hf
    go_enter Tryz.func46, Tryz.ntmps46
    go_wp2_with (fail)
    refine HFI.out.mono ?_
    rintro e w2 ⟨rfl, rfl⟩
    go_wp2_with (fail)
    go_ret
    exact Did.none HDK.out (Grows.refl _) 3
  | some f =>
    have HFI := Lib.hid (find_some w h hn hd hf)
    have hlt := h.find_lt hn hf
    have HT := Lib.hid (thing_any w h hF.cut hF.fail 104 #[.pointer (some ⟨G.loc f, 0, none⟩)] #[] (fun args w => by kernel_rfl) (Dk.doSync f) fun _ hc hx w1 h1 s1 => sync_do w1 h1 hlt)
    dsimp only
    clear h hF hn hd hf hlt
    go_enter Tryz.func46, Tryz.ntmps46
    go_wp2_with (fail)
    refine HFI.out.mono ?_
    rintro e w2 ⟨rfl, rfl⟩
    go_wp2_with (fail)
    refine HT.out.mono ?_
    rintro e w4 ⟨rfl, h4⟩
    have H4 := Lib.hid h4
    clear h4 HT
    go_wp2_with (fail)
    go_ret
    exact ⟨rfl, H4.out⟩

set_option maxHeartbeats 8000000 in
set_option maxRecDepth 100000 in
theorem remove_any (w : World) (n : Nm) (h : DkAt w d own G m) (hF : DkFit m) (hn : n.length ≤ 1000000) : Calls Tryz.prog 100 #[.pointer (some ⟨d, 0, none⟩), .string ⟨n.toArray⟩] w fun e w' => Did w d own (m.remove n) e w' := by
  have hg : Grows w ((w.alloc (.cells #[.pointer (some ⟨d, 0, none⟩)] 24)).alloc (.cells #[.string ⟨n.toArray⟩] 9)) := (grows_alloc _ _).trans (grows_alloc _ _)
  have ha : Whole ((w.alloc (.cells #[.pointer (some ⟨d, 0, none⟩)] 24)).alloc (.cells #[.string ⟨n.toArray⟩] 9)) w.heap.size 24 #[ptrV d] := (Whole.made _ _ _).alloc _
  have hb : Whole ((w.alloc (.cells #[.pointer (some ⟨d, 0, none⟩)] 24)).alloc (.cells #[.string ⟨n.toArray⟩] 9)) (w.heap.size + 1) 9 #[strB n] := by
    have := Whole.made (w.alloc (.cells #[.pointer (some ⟨d, 0, none⟩)] 24)) 9 #[strB n]
    rwa [World.size_alloc] at this
  have hnm : n.length ≤ maxLen := by unfold maxLen; omega
  have h0 := h.grow hg
  have HDK := Lib.hid (And.intro h hg)
  unfold Dk.remove
  cases hd : m.down with
  | true =>
    have HFI := Lib.hid (find_down _ h0 hnm hd)
    rw [if_pos rfl]
    clear h hF ha hb hn hnm h0 hg hd
    go_enter Tryz.func100, Tryz.ntmps100
    go_wp2_with (fail)
    refine HFI.out.mono ?_
    rintro e w2 ⟨rfl, rfl⟩
    go_wp2_with (fail)
    go_ret
    exact Did.none HDK.out.1 (HDK.out.2.trans (grows_alloc _ _)) 82
  | false =>
  rw [if_neg (by decide)]
  cases hf : Dir.find n m.names with
  | none =>
    have HFI := Lib.hid (find_none _ h0 hnm hd hf)
    dsimp only
    clear h hF ha hb hn hnm h0 hg hd hf
    go_enter Tryz.func100, Tryz.ntmps100
    go_wp2_with (fail)
    refine HFI.out.mono ?_
    rintro e w2 ⟨rfl, rfl⟩
    go_wp2_with (fail)
    go_ret
    exact Did.none HDK.out.1 (HDK.out.2.trans (grows_alloc _ _)) 3
  | some f =>
    have HFI := Lib.hid (find_some _ h0 hnm hd hf)
    have hlt := h.find_lt hnm hf
    have HT := Lib.hid (fun w3 (g3 : Grows ((w.alloc (.cells #[.pointer (some ⟨d, 0, none⟩)] 24)).alloc (.cells #[.string ⟨n.toArray⟩] 9)) w3) (hfc : Whole w3 (w.heap.size + 1 + 1) 89 #[ptrV (G.loc f)]) => thing_any w3 (h0.grow g3) hF.cut hF.fail 142 #[] #[.pointer (some ⟨w.heap.size, 0, none⟩), .pointer (some ⟨w.heap.size + 1 + 1, 0, none⟩), .pointer (some ⟨w.heap.size + 1, 0, none⟩)] (fun args w => by kernel_rfl) (Dk.doRemove f n)
      fun _ hc hx w1 h1 s1 => by
        have hl := h.top.lt
        refine remove_do w1 h1 hlt ((g3.whole ha).same (s1.same _ (g3.whole ha).lt (by omega))) (hfc.same (s1.same _ hfc.lt (by omega))) ((g3.whole hb).same (s1.same _ (g3.whole hb).lt (by omega))) ?_ hn hF.pend hF.names
        rintro k (rfl | rfl | rfl)
        · exact ⟨by omega, fun e => by have := h.rest.lt _ e; omega⟩
        · exact ⟨by omega, fun e => by have := h.rest.lt _ e; omega⟩
        · exact ⟨by omega, fun e => by have := h.rest.lt _ e; omega⟩)
    have WFC : Whole (((w.alloc (.cells #[.pointer (some ⟨d, 0, none⟩)] 24)).alloc (.cells #[.string ⟨n.toArray⟩] 9)).alloc (.cells #[.pointer (some ⟨G.loc f, 0, none⟩)] 89)) (w.heap.size + 1 + 1) 89 #[ptrV (G.loc f)] := by
      have := Whole.made ((w.alloc (.cells #[.pointer (some ⟨d, 0, none⟩)] 24)).alloc (.cells #[.string ⟨n.toArray⟩] 9)) 89 #[ptrV (G.loc f)]
      rwa [World.size_alloc, World.size_alloc] at this
    have HWF := Lib.hid WFC
    dsimp only
    clear h hF ha hb hn hnm h0 hg hd hf hlt WFC
    go_enter Tryz.func100, Tryz.ntmps100
    go_wp2_with (fail)
    refine HFI.out.mono ?_
    rintro e w2 ⟨rfl, rfl⟩
    go_wp2_with (fail)
    refine (HT.out _ (grows_alloc _ _) HWF.out).mono ?_
    rintro e w4 ⟨rfl, h4⟩
    have H4 := Lib.hid h4
    clear h4 HT
    go_wp2_with (fail)
    go_ret
    exact Did.behind (HDK.out.2.trans (grows_alloc _ _)) ⟨rfl, H4.out⟩

set_option maxHeartbeats 8000000 in
set_option maxRecDepth 100000 in
theorem append_any (w : World) (n : Nm) {A : Option Addr} {nb cb : Nat} {bs : List UInt8} (h : DkAt w d own G m) (hF : DkFit m) (hn : n.length ≤ maxLen) (hs : Sl w A nb cb bs) (hoff : ∀ ad, A = some ad → bs ≠ [] → ad.block ≠ d ∧ ¬ own ad.block) (hnb : nb ≤ 1000000000) :
    Calls Tryz.prog 45 #[.pointer (some ⟨d, 0, none⟩), .string ⟨n.toArray⟩, .slice A nb cb] w fun e w' => Did w d own (m.append n bs) e w' := by
  have hg : Grows w ((w.alloc (.cells #[.pointer (some ⟨d, 0, none⟩)] 24)).alloc (.cells #[.slice A nb cb] 55)) := (grows_alloc _ _).trans (grows_alloc _ _)
  have ha : Whole ((w.alloc (.cells #[.pointer (some ⟨d, 0, none⟩)] 24)).alloc (.cells #[.slice A nb cb] 55)) w.heap.size 24 #[ptrV d] := (Whole.made _ _ _).alloc _
  have hb : Whole ((w.alloc (.cells #[.pointer (some ⟨d, 0, none⟩)] 24)).alloc (.cells #[.slice A nb cb] 55)) (w.heap.size + 1) 55 #[.slice A nb cb] := by
    have := Whole.made (w.alloc (.cells #[.pointer (some ⟨d, 0, none⟩)] 24)) 55 #[.slice A nb cb]
    rwa [World.size_alloc] at this
  have h0 := h.grow hg
  have HDK := Lib.hid (And.intro h hg)
  have hlen := hs.len
  unfold Dk.append
  cases hd : m.down with
  | true =>
    have HFI := Lib.hid (find_down _ h0 hn hd)
    rw [if_pos rfl]
    clear h hF ha hb hn h0 hg hd hs hoff hnb hlen
    go_enter Tryz.func45, Tryz.ntmps45
    go_wp2_with (fail)
    refine HFI.out.mono ?_
    rintro e w2 ⟨rfl, rfl⟩
    go_wp2_with (fail)
    go_ret
    exact Did.none HDK.out.1 (HDK.out.2.trans (grows_alloc _ _)) 82
  | false =>
  rw [if_neg (by decide)]
  cases hf : Dir.find n m.names with
  | none =>
    have HFI := Lib.hid (find_none _ h0 hn hd hf)
    dsimp only
    clear h hF ha hb hn h0 hg hd hf hs hoff hnb hlen
    go_enter Tryz.func45, Tryz.ntmps45
    go_wp2_with (fail)
    refine HFI.out.mono ?_
    rintro e w2 ⟨rfl, rfl⟩
    go_wp2_with (fail)
    go_ret
    exact Did.none HDK.out.1 (HDK.out.2.trans (grows_alloc _ _)) 3
  | some f =>
    have HFI := Lib.hid (find_some _ h0 hn hd hf)
    have hlt := h.find_lt hn hf
    have WFC : Whole (((w.alloc (.cells #[.pointer (some ⟨d, 0, none⟩)] 24)).alloc (.cells #[.slice A nb cb] 55)).alloc (.cells #[.pointer (some ⟨G.loc f, 0, none⟩)] 89)) (w.heap.size + 1 + 1) 89 #[ptrV (G.loc f)] := by
      have := Whole.made ((w.alloc (.cells #[.pointer (some ⟨d, 0, none⟩)] 24)).alloc (.cells #[.slice A nb cb] 55)) 89 #[ptrV (G.loc f)]
      rwa [World.size_alloc, World.size_alloc] at this
    have g1 : Grows ((w.alloc (.cells #[.pointer (some ⟨d, 0, none⟩)] 24)).alloc (.cells #[.slice A nb cb] 55)) (((w.alloc (.cells #[.pointer (some ⟨d, 0, none⟩)] 24)).alloc (.cells #[.slice A nb cb] 55)).alloc (.cells #[.pointer (some ⟨G.loc f, 0, none⟩)] 89)) := grows_alloc _ _
    have HT := Lib.hid (fun w3 (g3 : Grows (((w.alloc (.cells #[.pointer (some ⟨d, 0, none⟩)] 24)).alloc (.cells #[.slice A nb cb] 55)).alloc (.cells #[.pointer (some ⟨G.loc f, 0, none⟩)] 89)) w3) => thing_any w3 (h0.grow (g1.trans g3)) hF.cut hF.fail 103 #[] #[.pointer (some ⟨w.heap.size + 1 + 1, 0, none⟩), .pointer (some ⟨w.heap.size + 1, 0, none⟩), .pointer (some ⟨w.heap.size, 0, none⟩)] (fun args w => by kernel_rfl) (Dk.doAppend f bs)
      fun _ hc hx w1 h1 s1 => by
        have hl := h.top.lt
        refine append_do w1 h1 hlt ((g3.whole WFC).same (s1.same _ (g3.whole WFC).lt (by omega))) (((g1.trans g3).whole hb).same (s1.same _ ((g1.trans g3).whole hb).lt (by omega))) (((g1.trans g3).whole ha).same (s1.same _ ((g1.trans g3).whole ha).lt (by omega))) ?_ ((hs.grow (hg.trans (g1.trans g3))).off s1.size fun ad e hne hl' => s1.same _ hl' (hoff ad e hne).1) hoff (hF.bytes f hlt).1 hnb
        rintro k (rfl | rfl | rfl)
        · exact ⟨by omega, fun e => by have := h.rest.lt _ e; omega⟩
        · exact ⟨by omega, fun e => by have := h.rest.lt _ e; omega⟩
        · exact ⟨by omega, fun e => by have := h.rest.lt _ e; omega⟩)
    have HCL := Lib.hid (show ∀ w', Grows (((w.alloc (.cells #[.pointer (some ⟨d, 0, none⟩)] 24)).alloc (.cells #[.slice A nb cb] 55)).alloc (.cells #[.pointer (some ⟨G.loc f, 0, none⟩)] 89)) w' → w'.cell? ⟨w.heap.size, 0, none⟩ = some (.pointer (some ⟨d, 0, none⟩)) ∧ w'.cell? ⟨w.heap.size + 1, 0, none⟩ = some (.slice A nb cb) ∧ w'.cell? ⟨d, 2, none⟩ = some (.int .i64 m.used) ∧ w'.cell? ⟨d, 0, none⟩ = some (.int .i64 m.most)
      from fun w' hg' => ⟨(g1.trans hg').cellq ha, (g1.trans hg').cellq hb, (g1.trans hg').cellq h0.top, (g1.trans hg').cellq h0.top⟩)
    dsimp only
    rw [hlen]
    clear h hF ha hb hn h0 hg hd hf hs hoff hnb hlen hlt WFC g1
    generalize hus : m.used = us at HCL ⊢
    generalize hmo : m.most = mo at HCL ⊢
    clear hus hmo
    have hwi : wrap64 (us + nb) = IntKind.i64.wrap (us + nb) := by unfold wrap64; rw [IntKind.wrap_i64]
    rw [hwi]
    clear hwi
    by_cases hq : mo < IntKind.i64.wrap (us + nb)
    · rw [if_pos hq]
      have d1 : decide (mo < IntKind.i64.wrap (us + nb)) = true := decide_eq_true hq
      clear hq
      go_enter Tryz.func45, Tryz.ntmps45
      go_wp2_with (fail)
      refine HFI.out.mono ?_
      rintro e w2 ⟨rfl, rfl⟩
      go_wp2_with (fail)
      refine q_region mixed (by kernel_rfl) ?_
      iterate 12 (refine q_op' (v := ?_) (a' := ?_) (by rfl) ?_ ?_ ?_
                  rotate_left 2
                  · intro w' hC
                    obtain ⟨z0, z1, z2, z3⟩ := HCL.out w' hC
                    clear hC
                    go_simp
                    try with_reducible rfl
                  · simp only [Act.put, List.setIfInBounds_toArray, List.set_cons_zero, List.set_cons_succ]
                    try rfl)
      refine wpQuiet_nil ?_
      intro w3 hC
      have HCw3 := Lib.hid hC
      clear hC
      clear HCL
      go_wp2_with (fail)
      go_ret
      exact Did.none HDK.out.1 (HDK.out.2.trans ((grows_alloc _ _).trans HCw3.out)) 5
    · rw [if_neg hq]
      have d1 : decide (mo < IntKind.i64.wrap (us + nb)) = false := decide_eq_false hq
      clear hq
      go_enter Tryz.func45, Tryz.ntmps45
      go_wp2_with (fail)
      refine HFI.out.mono ?_
      rintro e w2 ⟨rfl, rfl⟩
      go_wp2_with (fail)
      refine q_region mixed (by kernel_rfl) ?_
      iterate 12 (refine q_op' (v := ?_) (a' := ?_) (by rfl) ?_ ?_ ?_
                  rotate_left 2
                  · intro w' hC
                    obtain ⟨z0, z1, z2, z3⟩ := HCL.out w' hC
                    clear hC
                    go_simp
                    try with_reducible rfl
                  · simp only [Act.put, List.setIfInBounds_toArray, List.set_cons_zero, List.set_cons_succ]
                    try rfl)
      refine wpQuiet_nil ?_
      intro w3 hC
      have HCw3 := Lib.hid hC
      clear hC
      obtain ⟨z0, _, _, _⟩ := HCL.out w3 HCw3.out
      clear HCL
      go_wp2_with (fail)
      refine (HT.out w3 HCw3.out).mono ?_
      rintro e w4 ⟨rfl, h4⟩
      have H4 := Lib.hid h4
      clear h4 HT
      go_wp2_with (fail)
      go_ret
      exact Did.behind (HDK.out.2.trans ((grows_alloc _ _).trans HCw3.out)) ⟨rfl, H4.out⟩
end
end Go.Proofs.YtdkpbphgaenlnaaGreat


/-
  Rename; a new disk.
-/
namespace Go.Proofs.YtdkpbphgaenlnaaGreat
open Go.RowKit Go.Maps Go.WideMaps
set_option linter.unusedVariables false
set_option linter.unusedSimpArgs false
attribute [local irreducible] Go.wpQuiet

section
variable {w : World} {d : Nat} {own : Nat → Prop} {G : Geo} {m : Dk}

set_option maxHeartbeats 8000000 in
set_option maxRecDepth 100000 in
theorem rename_any (w : World) (n to : Nm) (h : DkAt w d own G m) (hF : DkFit m) (hn : n.length ≤ 1000000) (ht : to.length ≤ 1000000) : Calls Tryz.prog 48 #[.pointer (some ⟨d, 0, none⟩), .string ⟨n.toArray⟩, .string ⟨to.toArray⟩] w fun e w' => Did w d own (m.rename n to) e w' := by
  have hg : Grows w (((w.alloc (.cells #[.pointer (some ⟨d, 0, none⟩)] 24)).alloc (.cells #[.string ⟨n.toArray⟩] 9)).alloc (.cells #[.string ⟨to.toArray⟩] 9)) := ((grows_alloc _ _).trans (grows_alloc _ _)).trans (grows_alloc _ _)
  have ha : Whole (((w.alloc (.cells #[.pointer (some ⟨d, 0, none⟩)] 24)).alloc (.cells #[.string ⟨n.toArray⟩] 9)).alloc (.cells #[.string ⟨to.toArray⟩] 9)) w.heap.size 24 #[ptrV d] := ((Whole.made _ _ _).alloc _).alloc _
  have hb : Whole (((w.alloc (.cells #[.pointer (some ⟨d, 0, none⟩)] 24)).alloc (.cells #[.string ⟨n.toArray⟩] 9)).alloc (.cells #[.string ⟨to.toArray⟩] 9)) (w.heap.size + 1) 9 #[strB n] := by
    have := (Whole.made (w.alloc (.cells #[.pointer (some ⟨d, 0, none⟩)] 24)) 9 #[strB n]).alloc (.cells #[.string ⟨to.toArray⟩] 9)
    rwa [World.size_alloc] at this
  have hc : Whole (((w.alloc (.cells #[.pointer (some ⟨d, 0, none⟩)] 24)).alloc (.cells #[.string ⟨n.toArray⟩] 9)).alloc (.cells #[.string ⟨to.toArray⟩] 9)) (w.heap.size + 1 + 1) 9 #[strB to] := by
    have := Whole.made ((w.alloc (.cells #[.pointer (some ⟨d, 0, none⟩)] 24)).alloc (.cells #[.string ⟨n.toArray⟩] 9)) 9 #[strB to]
    rwa [World.size_alloc, World.size_alloc] at this
  have hnm : n.length ≤ maxLen := by unfold maxLen; omega
  have h0 := h.grow hg
  have HDK := Lib.hid (And.intro h hg)
  unfold Dk.rename
  cases hd : m.down with
  | true =>
    have HFI := Lib.hid (find_down _ h0 hnm hd)
    rw [if_pos rfl]
    clear h hF ha hb hc hn hnm h0 hg hd ht
    go_enter Tryz.func48, Tryz.ntmps48
    go_wp2_with (fail)
    refine HFI.out.mono ?_
    rintro e w2 ⟨rfl, rfl⟩
    go_wp2_with (fail)
    go_ret
    exact Did.none HDK.out.1 HDK.out.2 82
  | false =>
  rw [if_neg (by decide)]
  cases hf : Dir.find n m.names with
  | none =>
    have HFI := Lib.hid (find_none _ h0 hnm hd hf)
    dsimp only
    clear h hF ha hb hc hn hnm h0 hg hd hf ht
    go_enter Tryz.func48, Tryz.ntmps48
    go_wp2_with (fail)
    refine HFI.out.mono ?_
    rintro e w2 ⟨rfl, rfl⟩
    go_wp2_with (fail)
    go_ret
    exact Did.none HDK.out.1 HDK.out.2 3
  | some f =>
  have HFI := Lib.hid (find_some _ h0 hnm hd hf)
  dsimp only
  have HR := Lib.hid (right_any to)
  cases hr : right to with
  | false =>
    rw [hr] at HR
    rw [if_pos (.inl rfl)]
    clear h hF ha hb hc hn hnm h0 hg hd hf hr ht
    go_enter Tryz.func48, Tryz.ntmps48
    go_wp2_with (fail)
    refine HFI.out.mono ?_
    rintro e w2 ⟨rfl, rfl⟩
    go_wp2_with (fail)
    refine (HR.out _).mono ?_
    rintro e w2 ⟨rfl, rfl⟩
    go_wp2_with (fail)
    go_ret
    exact Did.none HDK.out.1 HDK.out.2 1
  | true =>
  rw [hr] at HR
  have HT := Lib.hid (thing_any _ h0 hF.cut hF.fail 105 #[] #[.pointer (some ⟨w.heap.size, 0, none⟩), .pointer (some ⟨w.heap.size + 1 + 1, 0, none⟩), .pointer (some ⟨w.heap.size + 1, 0, none⟩)] (fun args w => by kernel_rfl) (Dk.doRename n to)
    fun _ _ hx w1 h1 s1 => by
      have hl := h.top.lt
      refine rename_do w1 h1 (ha.same (s1.same _ ha.lt (by omega))) (hc.same (s1.same _ hc.lt (by omega))) (hb.same (s1.same _ hb.lt (by omega))) ?_ hn ht hF.pend hF.names
      rintro k (rfl | rfl | rfl)
      · exact ⟨by omega, fun e => by have := h.rest.lt _ e; omega⟩
      · exact ⟨by omega, fun e => by have := h.rest.lt _ e; omega⟩
      · exact ⟨by omega, fun e => by have := h.rest.lt _ e; omega⟩)
  by_cases he : to = n
  · rw [if_pos (.inr he)]
    subst he
    clear h hF ha hb hc hn hnm h0 hg hd hf hr ht HT
    go_enter Tryz.func48, Tryz.ntmps48
    go_wp2_with (fail)
    refine HFI.out.mono ?_
    rintro e w2 ⟨rfl, rfl⟩
    go_wp2_with (fail)
    refine (HR.out _).mono ?_
    rintro e w2 ⟨rfl, rfl⟩
    go_wp2_with (fail)
    go_ret
    exact Did.none HDK.out.1 HDK.out.2 1
  · rw [if_neg (by rintro (e | e); · cases e
                   · exact he e)]
    have hs : (to == n) = false := by rw [beq_eq_false_iff_ne]; exact he
    clear h hF ha hb hc hn hnm h0 hg hd hf hr ht he
    go_enter Tryz.func48, Tryz.ntmps48
    go_wp2_with (fail)
    refine HFI.out.mono ?_
    rintro e w2 ⟨rfl, rfl⟩
    go_wp2_with (fail)
    refine (HR.out _).mono ?_
    rintro e w2 ⟨rfl, rfl⟩
    go_wp2_with (fail)
    refine HT.out.mono ?_
    rintro e w4 ⟨rfl, h4⟩
    have H4 := Lib.hid h4
    clear h4 HT
    go_wp2_with (fail)
    go_ret
    exact Did.behind HDK.out.2 ⟨rfl, H4.out⟩
end

/-- A new disk, in blocks of its own. -/
def DkNew (w : World) (d : Nat) (w' : World) (m : Dk) : Prop := ∃ own G, DkAt w' d own G m ∧ w.heap.size ≤ d ∧ (∀ k, own k → w.heap.size ≤ k) ∧ Grows w w'
theorem new_of (w : World) (x : Int) : DkNew w (w.heap.size + 1 + 1) (((w.alloc (.map #[] 0)).alloc (.map #[] 0)).alloc (.cells #[.int .i64 (min (max x 0) 67108864), .int .i64 0, .int .i64 0, .map (some w.heap.size), .map (some (w.heap.size + 1)), .slice none 0 0, .int .i64 0, .int .i64 (-1), .int .i64 (-1), .bool false] 72)) (Dk.new x) := by
  have m1 := (World.ownsMap_made w Tryz.prog 9 (ptrR 0 (fun _ => 0))).alloc (.map #[] 0) |>.alloc (.cells #[.int .i64 (min (max x 0) 67108864), .int .i64 0, .int .i64 0, .map (some w.heap.size), .map (some (w.heap.size + 1)), .slice none 0 0, .int .i64 0, .int .i64 (-1), .int .i64 (-1), .bool false] 72)
  have m2 := (World.ownsMap_made (w.alloc (.map #[] 0)) Tryz.prog 9 (ptrR 0 (fun _ => 0))).alloc (.cells #[.int .i64 (min (max x 0) 67108864), .int .i64 0, .int .i64 0, .map (some w.heap.size), .map (some (w.heap.size + 1)), .slice none 0 0, .int .i64 0, .int .i64 (-1), .int .i64 (-1), .bool false] 72)
  have m3 := Whole.made ((w.alloc (.map #[] 0)).alloc (.map #[] 0)) 72 #[.int .i64 (min (max x 0) 67108864), .int .i64 0, .int .i64 0, .map (some w.heap.size), .map (some (w.heap.size + 1)), .slice none 0 0, .int .i64 0, .int .i64 (-1), .int .i64 (-1), .bool false]
  rw [World.size_alloc] at m2 m3
  rw [World.size_alloc] at m3
  have g1 : Grows w (((w.alloc (.map #[] 0)).alloc (.map #[] 0)).alloc (.cells #[.int .i64 (min (max x 0) 67108864), .int .i64 0, .int .i64 0, .map (some w.heap.size), .map (some (w.heap.size + 1)), .slice none 0 0, .int .i64 0, .int .i64 (-1), .int .i64 (-1), .bool false] 72)) := ((grows_alloc _ _).trans (grows_alloc _ _)).trans (grows_alloc _ _)
  refine ⟨fun k => k = w.heap.size ∨ k = w.heap.size + 1, ⟨w.heap.size, w.heap.size + 1, .slice none 0 0, [], fun _ => 0, fun _ => .slice none 0 0⟩, ⟨?_, m3, by omega⟩, by omega, by omega, g1⟩
  constructor
  · rintro k (rfl | rfl)
    · exact m1.lt
    · exact m2.lt
  · exact m1
  · exact .inl rfl
  · exact m2
  · exact .inr rfl
  · show w.heap.size ≠ w.heap.size + 1
    omega
  · exact ⟨rfl, .inl ⟨rfl, rfl⟩⟩
  · intro k hk; cases hk
  · intro i v c h1 h2; simp at h1
  · intro i j hi; exact absurd hi (Nat.not_lt_zero _)
  · intro i hi; exact absurd hi (Nat.not_lt_zero _)
  · intro i hi; exact absurd hi (Nat.not_lt_zero _)
  · intro i hi; exact absurd hi (Nat.not_lt_zero _)
  · intro i k hi; exact absurd hi (Nat.not_lt_zero _)
  · intro i j k hi; exact absurd hi (Nat.not_lt_zero _)

set_option maxHeartbeats 4000000 in
set_option maxRecDepth 100000 in
theorem new_any (w : World) (x : Int) : Calls Tryz.prog 6 #[.int .i64 x] w fun e w' => ∃ d, e = .returned (.pointer (some ⟨d, 0, none⟩)) ∧ DkNew w d w' (Dk.new x) := by
  have HN := Lib.hid (new_of w x)
  have hmm := @run_makeMap Tryz.prog
  go_enter Tryz.func6, Tryz.ntmps6
  go_wp2
  go_ret
  exact ⟨_, rfl, HN.out⟩
end Go.Proofs.YtdkpbphgaenlnaaGreat


/-
  Read.
-/
namespace Go.Proofs.YtdkpbphgaenlnaaGreat
open Go.RowKit Go.Maps Go.WideMaps
set_option linter.unusedVariables false
set_option linter.unusedSimpArgs false

/-- What Read hands back. -/
def ReadTo (w : World) (r : Option (List UInt8) × Int) (e : Ending) (w' : World) : Prop :=
  match r.1 with
  | none => e = .returned (.tuple #[.slice none 0 0, .int .i64 r.2]) ∧ w = w'
  | some bs => e = .returned (.tuple #[.slice (some ⟨w.heap.size, 0, none⟩) bs.length bs.length, .int .i64 r.2]) ∧ w'.ownsRow w.heap.size 5 1 (.slice (some ⟨w.heap.size, 0, none⟩) bs.length bs.length) bs.length (bs.map byteV) ∧ Grows w w'

theorem add_two (ad : Addr) (x j : Nat) : ad.add (x + j) = (ad.add x).add j := by
  unfold Addr.add
  by_cases hx : x = 0
  · subst hx; simp
  · by_cases hj : j = 0
    · subst hj; simp
    · simp [hx, hj, Nat.add_assoc]
/-- copy into a whole row of one's own. -/
theorem copy_run {w3 : World} {g K S C : Nat} {sp : Option Addr} {cur cs : List Value} (ty : TypeId) (hsz : (Tryz.prog.info? 5).map (·.size) = some 1) (hg : w3.heap[g]? = some (.cells cur.toArray 5 (0, 0))) (hc : cs.length = K) (hS : K ≤ S) (hcur : cur.length = K)
    (hpos : 0 < K → ∃ ad, sp = some ad ∧ ∀ (j : Nat) v, cs[j]? = some v → w3.cell? (ad.add j) = some v) (h1 : ∀ v ∈ cs, v.oneCell' = true) :
    ∃ w4, (Builtin.copy_ #[55, 55] ty #[.slice (some ⟨g, 0, none⟩) K K, .slice sp S C]).run Tryz.prog w3 = .ok (goInt K) w4 ∧ w4.heap[g]? = some (.cells (splice cur 0 cs).toArray 5 (0, 0)) ∧ Below g w3 w4 := by
  by_cases h0 : K = 0
  · subst h0
    obtain rfl : cs = [] := List.eq_nil_of_length_eq_zero hc
    exact ⟨w3, run_copy_none w3 _ _ ty 5 _ _ _ _ _ _ Tryz.underlying55 hsz (by simp), by simpa [splice] using hg, Below.refl _ _⟩
  · obtain ⟨ad, rfl, hsrc⟩ := hpos (by omega)
    have hr := run_copy_row (P := Tryz.prog) w3 55 55 ty 5 g 0 K K ad S C cur.toArray 5 cs Tryz.underlying55 hsz hg (by rw [hc]; exact (Nat.min_eq_right hS).symm) hsrc (by simp; omega) h1
    rw [hc] at hr
    refine ⟨_, hr, ?_, below_setRow (Below.refl _ _) (Nat.le_refl _) _⟩
    have := setRow_heap w3 g cur.toArray (List.take 0 cur ++ cs ++ List.drop (0 + K) cur).toArray 5 (0, 0) hg
    rw [this]
    unfold splice
    rw [hc, List.append_assoc]
theorem madeBytes (k : Nat) : (madeCells (Value.int .u8 0).cells (k * 1)).toList.length = k := by simp [size_madeCells]

section
variable {w : World} {d : Nat} {own : Nat → Prop} {G : Geo} {m : Dk}
set_option maxHeartbeats 8000000 in
set_option maxRecDepth 100000 in
theorem read_any (w : World) (n : Nm) (x k : Int) (h : DkAt w d own G m) (hF : DkFit m) (hn : n.length ≤ maxLen) (hx : -9223372036854775808 ≤ x ∧ x ≤ 9223372036854775807) (hk : -9223372036854775808 ≤ k ∧ k ≤ 9223372036854775807) :
    Calls Tryz.prog 75 #[.pointer (some ⟨d, 0, none⟩), .string ⟨n.toArray⟩, .int .i64 x, .int .i64 k] w fun e w' => ReadTo w (m.read n x k) e w' := by
  unfold Dk.read
  cases hd : m.down with
  | true =>
    have HFI := Lib.hid (find_down w h hn hd)
    rw [if_pos rfl]
    clear h hF hn hd hx hk
    go_enter Tryz.func75, Tryz.ntmps75
    go_wp2_with (fail)
    refine HFI.out.mono ?_
    rintro e w2 ⟨rfl, rfl⟩
    go_wp2_with (fail)
    all_goals (go_ret2; exact ⟨rfl, rfl⟩)
  | false =>
  rw [if_neg (by decide)]
  cases hf : Dir.find n m.names with
  | none =>
    have HFI := Lib.hid (find_none w h hn hd hf)
    dsimp only
    clear h hF hn hd hf hx hk
    go_enter Tryz.func75, Tryz.ntmps75
    go_wp2_with (fail)
    refine HFI.out.mono ?_
    rintro e w2 ⟨rfl, rfl⟩
    go_wp2_with (fail)
    all_goals (go_ret2; exact ⟨rfl, rfl⟩)
  | some f =>
  have HFI := Lib.hid (find_some w h hn hd hf)
  have hlt := h.find_lt hn hf
  obtain ⟨A0, c0, hA0, hbare⟩ := slice_of_owned (h.rest.rows f hlt)
  have hc := h.rest.cells f hlt
  have hrow := h.rest.rows f hlt
  rw [hA0] at hc hrow
  have hl := (hF.bytes f hlt).1
  have c1 : w.cell? ⟨G.loc f, 1, none⟩ = some (.slice A0 (m.files f).bytes.length c0) := hc.cell 1
  have hcap : (m.files f).bytes.length ≤ c0 := by
    rcases hrow.2 with ⟨e, e2⟩ | ⟨g, cap, cur, e, _, _, e2, _⟩
    · injection e with _ e _; omega
    · injection e with _ _ e; omega
  have HR := Lib.hid hrow
  have HBARE := Lib.hid hbare
  dsimp only
  clear h hF hn hd hf hA0 hc hrow hlt hbare
  generalize (m.files f).bytes = bs at *
  generalize hnn : bs.length = nn at *
  have HN := Lib.hid hnn
  clear hnn
  generalize G.loc f = lf at *
  by_cases b1 : x < 0
  · rw [if_pos (.inl b1)]
    clear hx hk HR HBARE hcap
    go_enter Tryz.func75, Tryz.ntmps75
    go_wp2_with (fail)
    refine HFI.out.mono ?_
    rintro e w2 ⟨rfl, rfl⟩
    go_wp2_with (fail)
    all_goals (go_ret2; exact ⟨rfl, rfl⟩)
  by_cases b2 : k < 0
  · rw [if_pos (.inr (.inl b2))]
    clear hx hk HR HBARE hcap
    go_enter Tryz.func75, Tryz.ntmps75
    go_wp2_with (fail)
    refine HFI.out.mono ?_
    rintro e w2 ⟨rfl, rfl⟩
    go_wp2_with (fail)
    all_goals (go_ret2; exact ⟨rfl, rfl⟩)
  by_cases b3 : (nn : Int) < x
  · rw [if_pos (.inr (.inr (.inl b3)))]
    clear hx hk HR HBARE hcap
    go_enter Tryz.func75, Tryz.ntmps75
    go_wp2_with (fail)
    refine HFI.out.mono ?_
    rintro e w2 ⟨rfl, rfl⟩
    go_wp2_with (fail)
    all_goals (go_ret2; exact ⟨rfl, rfl⟩)
  have w1 : IntKind.i64.wrap ((nn : Int) - x) = nn - x := IntWalk.i64_in _ (by omega)
  by_cases b4 : (nn : Int) - x < k
  · rw [if_pos (.inr (.inr (.inr b4)))]
    clear hx hk HR HBARE hcap
    go_enter Tryz.func75, Tryz.ntmps75
    go_wp2_with (fail)
    refine HFI.out.mono ?_
    rintro e w2 ⟨rfl, rfl⟩
    go_wp2_with (fail)
    all_goals (go_ret2; exact ⟨rfl, rfl⟩)
  rw [if_neg (by rintro (e | e | e | e) <;> contradiction)]
  obtain ⟨X, rfl⟩ : ∃ X : Nat, x = X := ⟨x.toNat, by omega⟩
  obtain ⟨K, rfl⟩ : ∃ K : Nat, k = K := ⟨k.toNat, by omega⟩
  obtain ⟨ys, hys⟩ : ∃ ys, (bs.drop X).take K = ys := ⟨_, rfl⟩
  have hyl : ys.length = K := by
    rw [← hys, List.length_take, List.length_drop, HN.out]
    omega
  have e1 : ((X : Int)).toNat = X := by omega
  have e2 : ((K : Int)).toNat = K := by omega
  rw [e1, e2, hys]
  have HY := Lib.hid (And.intro hys hyl)
  unfold ReadTo
  dsimp only
  rw [hyl]
  obtain ⟨i0, hi0, hz0, hz1, hz2⟩ := info_parts infoU8
  have HI := Lib.hid (And.intro hi0 (And.intro hz0 (And.intro hz1 hz2)))
  have HIS := Lib.hid (show (Tryz.prog.info? 5).map (·.size) = some 1 by rw [hi0]; simp [hz1])
  clear hi0 hz0 hz1 hz2 hys e1 e2
  have q1 : X ≤ nn := by omega
  have q2 : K ≤ nn - X := by omega
  have q3 : K ≤ 1000000000 := by omega
  have HQ := Lib.hid (And.intro q1 (And.intro q2 hcap))
  have src : ∀ ad, A0 = some ad → ∀ w', Grows w w' → ∀ j v, (ys.map byteV)[j]? = some v → w'.cell? (ad.add (X + j)) = some v := fun ad ea w' hg j v hv => by
    have hr := Row.owned HR.out
    have h1 : (bs.map byteV)[X + j]? = some v := by
      rw [← HY.out.1, List.map_take, List.map_drop] at hv
      rw [List.getElem?_take] at hv
      split at hv
      · rwa [List.getElem?_drop] at hv
      · cases hv
    obtain ⟨ad', e, hb, hcl⟩ := Row.spot hr _ v h1
    rw [ea] at e
    cases e
    rw [← hcl]
    refine World.cell?_of_block ?_
    rw [show (ad.add (X + j)).block = ad.block by unfold Addr.add; split <;> rfl]
    exact hg.block _ hb
  have HS := Lib.hid src
  clear src hyl
  have fin : ∀ w1 w2 : World, w1.ownsRow w.heap.size 5 1 (.slice (some ⟨w.heap.size, 0, none⟩) K K) K (madeCells (Value.int .u8 0).cells (K * 1)).toList → w.grownBy w1 none → Below w.heap.size w1 w2 → w2.heap[w.heap.size]? = some (.cells (splice (madeCells (Value.int .u8 0).cells (K * 1)).toList 0 (ys.map byteV)).toArray 5 (0, 0)) →
      w2.ownsRow w.heap.size 5 1 (.slice (some ⟨w.heap.size, 0, none⟩) K K) K (ys.map byteV) ∧ Grows w w2 := fun w1 w2 hr hg hb hs => by
    have hsp : splice (madeCells (Value.int .u8 0).cells (K * 1)).toList 0 (ys.map byteV) = ys.map byteV := by
      unfold splice
      rw [List.drop_eq_nil_of_le (by rw [madeBytes, List.length_map, HY.out.2]; omega)]
      simp
    rw [hsp] at hs
    refine ⟨⟨by rw [List.length_map, HY.out.2]; omega, .inr ⟨w.heap.size, K, (ys.map byteV).toArray, rfl, Nat.le_refl _, hs, Nat.le_refl _, by unfold maxLen; omega, ?_, ?_⟩⟩, ?_⟩
    · rw [List.size_toArray, List.length_map, HY.out.2]; omega
    · rw [List.take_of_length_le]
      rw [Array.length_toList, List.size_toArray, List.length_map, HY.out.2]; omega
    · have h1 : Grows w w1 := (Below.refl _ w).grown hg (Nat.le_refl _) (fun g e => by cases e)
      exact Below.trans h1 hb
  have HFN := Lib.hid fin
  clear fin
  have MK : ∀ w1 : World, w1.ownsRow w.heap.size 5 1 (.slice (some ⟨w.heap.size, 0, none⟩) K K) K (madeCells (Value.int .u8 0).cells (K * 1)).toList → w.grownBy w1 none → w1.heap[w.heap.size]? = some (.cells (madeCells (Value.int .u8 0).cells (K * 1)).toList.toArray 5 (0, 0)) ∧ w1.cell? ⟨lf, 1, none⟩ = some (.slice A0 nn c0) ∧ ∀ ad, A0 = some ad → ∀ j v, (ys.map byteV)[j]? = some v → w1.cell? ((ad.add X).add j) = some v := fun w1 hr hg => by
    refine ⟨?_, (((Below.refl _ w).grown hg (Nat.le_refl _) (fun g e => by cases e)).cell (World.block_lt_of_cell? w _ c1)).trans c1, fun ad e j v hv => by
    have := HS.out ad e w1 ((Below.refl _ w).grown hg (Nat.le_refl _) (fun g e => by cases e)) j v hv
    rwa [add_two] at this⟩
    rcases hr.2 with ⟨e, _⟩ | ⟨g, cap, cur, e, _, hh, e3, _, e4, e5⟩
    · injection e with e; cases e
    · injection e with e _ e6
      injection e with e
      injection e with e
      subst e
      subst e6
      rw [hh, ← e5, List.take_of_length_le (by rw [Array.length_toList, e4]; omega)]
  have HMK := Lib.hid MK
  clear MK
  have d0 : ¬ (X : Int) < 0 := b1
  cases A0 with
  | none =>
    obtain rfl : c0 = 0 := HBARE.out rfl
    obtain rfl : nn = 0 := by omega
    obtain rfl : X = 0 := by omega
    obtain rfl : K = 0 := by omega
    go_enter Tryz.func75, Tryz.ntmps75
    go_wp2_with (fail)
    refine HFI.out.mono ?_
    rintro e w2 ⟨rfl, rfl⟩
    go_wp2_with (first
      | (at_make; refine wpList_make_full _ rfl _ _ 55 rfl w.heap.size 5 i0 (.int .u8 0) 1 Tryz.underlying55 HI.out.1 HI.out.2.1 HI.out.2.2.1 .i64 .i64 _ _ 0 rfl rfl rfl rfl (by rw [HI.out.2.2.2]; omega) (by unfold maxLen; omega) (Nat.le_refl _) ?_; intro w3 hr3 hg3; have c3 := (HMK.out w3 hr3 hg3).2.1; have HR3 := Lib.hid hr3; have HG3 := Lib.hid hg3; clear hr3 hg3))
    obtain ⟨w4, hrun, hs4, hb4⟩ := copy_run (K := 0) (S := 0) (C := 0) (sp := none) 3 HIS.out (HMK.out w3 HR3.out HG3.out).1 (cs := ys.map byteV) (by rw [List.length_map, HY.out.2]) (Nat.le_refl _) (madeBytes 0) (fun h => absurd h (Nat.lt_irrefl 0)) (byteV_one ys)
    have HS4 := Lib.hid hs4
    have HB4 := Lib.hid hb4
    clear hs4 hb4
    rw [hrun]
    simp only [Result.andThen]
    rw [Oper.upon_value]
    clear hrun
    go_wp2_with (fail)
    go_ret2
    obtain ⟨z1, z2⟩ := HFN.out w3 w4 HR3.out HG3.out HB4.out HS4.out
    exact ⟨rfl, z1, z2⟩
  | some ad =>
    by_cases hcx : c0 = X
    · obtain rfl : K = 0 := by omega
      go_enter Tryz.func75, Tryz.ntmps75
      go_wp2_with (fail)
      refine HFI.out.mono ?_
      rintro e w2 ⟨rfl, rfl⟩
      go_wp2_with (first
        | (at_make; refine wpList_make_full _ rfl _ _ 55 rfl w.heap.size 5 i0 (.int .u8 0) 1 Tryz.underlying55 HI.out.1 HI.out.2.1 HI.out.2.2.1 .i64 .i64 _ _ 0 rfl rfl rfl rfl (by rw [HI.out.2.2.2]; omega) (by unfold maxLen; omega) (Nat.le_refl _) ?_; intro w3 hr3 hg3; have c3 := (HMK.out w3 hr3 hg3).2.1; have HR3 := Lib.hid hr3; have HG3 := Lib.hid hg3; clear hr3 hg3))
      obtain ⟨w4, hrun, hs4, hb4⟩ := copy_run (K := 0) (S := nn - X) (C := 0) (sp := some ad) 3 HIS.out (HMK.out w3 HR3.out HG3.out).1 (cs := ys.map byteV) (by rw [List.length_map, HY.out.2]) HQ.out.2.1 (madeBytes 0) (fun h => absurd h (Nat.lt_irrefl 0)) (byteV_one ys)
      have HS4 := Lib.hid hs4
      have HB4 := Lib.hid hb4
      clear hs4 hb4
      rw [hrun]
      simp only [Result.andThen]
      rw [Oper.upon_value]
      clear hrun
      go_wp2_with (fail)
      go_ret2
      obtain ⟨z1, z2⟩ := HFN.out w3 w4 HR3.out HG3.out HB4.out HS4.out
      exact ⟨rfl, z1, z2⟩
    · go_enter Tryz.func75, Tryz.ntmps75
      go_wp2_with (fail)
      refine HFI.out.mono ?_
      rintro e w2 ⟨rfl, rfl⟩
      go_wp2_with (first
        | (at_make; refine wpList_make_full _ rfl _ _ 55 rfl w.heap.size 5 i0 (.int .u8 0) 1 Tryz.underlying55 HI.out.1 HI.out.2.1 HI.out.2.2.1 .i64 .i64 _ _ K rfl rfl rfl rfl (by rw [HI.out.2.2.2]; omega) (by unfold maxLen; omega) (Nat.le_refl _) ?_; intro w3 hr3 hg3; have c3 := (HMK.out w3 hr3 hg3).2.1; have HR3 := Lib.hid hr3; have HG3 := Lib.hid hg3; clear hr3 hg3))
      obtain ⟨w4, hrun, hs4, hb4⟩ := copy_run (K := K) (S := nn - X) (C := c0 - X) (sp := some (ad.add X)) 3 HIS.out (HMK.out w3 HR3.out HG3.out).1 (cs := ys.map byteV) (by rw [List.length_map, HY.out.2]) HQ.out.2.1 (madeBytes K) (fun _ => ⟨_, rfl, (HMK.out w3 HR3.out HG3.out).2.2 _ rfl⟩) (byteV_one ys)
      have HS4 := Lib.hid hs4
      have HB4 := Lib.hid hb4
      clear hs4 hb4
      rw [hrun]
      simp only [Result.andThen]
      rw [Oper.upon_value]
      clear hrun
      go_wp2_with (fail)
      go_ret2
      obtain ⟨z1, z2⟩ := HFN.out w3 w4 HR3.out HG3.out HB4.out HS4.out
      exact ⟨rfl, z1, z2⟩
end
end Go.Proofs.YtdkpbphgaenlnaaGreat

