/-
  A thing is done, if nothing goes wrong with it.
-/
import Derived.Test.YtmfhpfehphbklaaDkMake
namespace Go.Proofs.Ytmfhpfehphbklaa
open Go.RowKit Go.Maps Go.WideMaps
set_option linter.unusedVariables false
set_option linter.unusedSimpArgs false
attribute [local irreducible] Go.wpQuiet

theorem Grows.cellq {w w' : World} {g t i : Nat} {cs : Array Value} (hg : Grows w w') (h : Whole w g t cs) : w'.cell? ⟨g, i, none⟩ = cs[i]? := (hg.whole h).cell i

section
variable {w : World} {d : Nat} {own : Nat → Prop} {G : Geo} {m : Dk}
/-- One thing sooner, in memory. -/
theorem soon_any (w : World) (h : DkAt w d own G m) (hx : -1 ≤ m.cut ∧ m.cut ≤ 9223372036854775807) (hy : -1 ≤ m.fail ∧ m.fail ≤ 9223372036854775807) :
    Calls Try.prog 81 #[.pointer (some ⟨d, 8, none⟩)] w fun e w1 => e = .returned (.tuple #[]) ∧ DkAt w1 d own G { m with cut := sooner m.cut } ∧ Spares (fun k => k = d) w w1 := by
  refine (sooner_any w (h.cell 8) (h.top.free 8) (by omega)).mono ?_
  rintro e w1 ⟨rfl, hw⟩
  by_cases hy : 0 < m.cut
  · rw [if_pos hy] at hw
    subst hw
    exact ⟨rfl, h.set 8 _ (by simp [dCells, sooner, hy]) rfl rfl rfl rfl rfl, (Spares.refl (fun k => k = d) w).setCell (p := ⟨d, 8, none⟩) rfl _⟩
  · rw [if_neg hy] at hw
    subst hw
    refine ⟨rfl, ?_, Spares.refl _ _⟩
    have : ({ m with cut := sooner m.cut } : Dk) = m := by simp [sooner, hy]
    rw [this]
    exact h
theorem soon_any2 (w : World) (h : DkAt w d own G m) (hy : -1 ≤ m.fail ∧ m.fail ≤ 9223372036854775807) :
    Calls Try.prog 81 #[.pointer (some ⟨d, 7, none⟩)] w fun e w1 => e = .returned (.tuple #[]) ∧ DkAt w1 d own G { m with fail := sooner m.fail } ∧ Spares (fun k => k = d) w w1 := by
  refine (sooner_any w (h.cell 7) (h.top.free 7) (by omega)).mono ?_
  rintro e w1 ⟨rfl, hw⟩
  by_cases hy : 0 < m.fail
  · rw [if_pos hy] at hw
    subst hw
    exact ⟨rfl, h.set 7 _ (by simp [dCells, sooner, hy]) rfl rfl rfl rfl rfl, (Spares.refl (fun k => k = d) w).setCell (p := ⟨d, 7, none⟩) rfl _⟩
  · rw [if_neg hy] at hw
    subst hw
    refine ⟨rfl, ?_, Spares.refl _ _⟩
    have : ({ m with fail := sooner m.fail } : Dk) = m := by simp [sooner, hy]
    rw [this]
    exact h

/-- What stands behind a call: the disk, and an answer. -/
def Did (w : World) (d : Nat) (own : Nat → Prop) (r : Dk × Int) (e : Ending) (w' : World) : Prop := e = .returned (.int .i64 r.2) ∧ DkTo w d own w' r.1
theorem DkTo.of {w w' : World} {own' : Nat → Prop} {G' : Geo} {m' : Dk} (h : DkAt w' d own' G' m') (hs : Spares (fun k => k = d ∨ own k) w w') (ho : ∀ k, own' k → own k ∨ w.heap.size ≤ k) : DkTo w d own w' m' := ⟨own', G', h, hs, ho⟩
theorem DkTo.same {w w' : World} {m' : Dk} (h : DkAt w' d own G m') (hs : Spares (fun k => k = d) w w') : DkTo w d own w' m' :=
  ⟨own, G, h, hs.wider fun k _ e => .inl e, fun k hk => .inl hk⟩
theorem DkTo.behind {w w1 w' : World} {m' : Dk} (hs : Spares (fun k => k = d) w w1) (h : DkTo w1 d own w' m') : DkTo w d own w' m' := by
  obtain ⟨own', G', h1, h2, h3⟩ := h
  exact ⟨own', G', h1, (hs.wider fun k _ e => .inl e).trans h2, fun k hk => (h3 k hk).imp id fun h => Nat.le_trans hs.size h⟩
theorem DkTo.retop {w w' w'' : World} {m1 m2 : Dk} (h : DkTo w d own w' m1) (h2 : ∀ own' G', DkAt w' d own' G' m1 → DkAt w'' d own' G' m2) (hs : Spares (fun k => k = d) w' w'') : DkTo w d own w'' m2 := by
  obtain ⟨own', G', h1, h3, h4⟩ := h
  exact ⟨own', G', h2 _ _ h1, h3.trans (hs.wider fun k _ e => .inl e), h4⟩

set_option maxHeartbeats 4000000 in
set_option maxRecDepth 100000 in
theorem thing_any (w : World) (h : DkAt w d own G m) (hx : -1 ≤ m.cut ∧ m.cut ≤ 9223372036854775807) (hy : -1 ≤ m.fail ∧ m.fail ≤ 9223372036854775807) (gf : Nat) (first caps : Array Value)
    (eg : ∀ args w, (callFunc gf args).run Try.prog w = .ok (.enter gf args) w) (does : Dk → Dk)
    (hdo : m.down = false → m.cut ≠ 0 → m.fail ≠ 0 → ∀ w1, DkAt w1 d own G m.sooner → Spares (fun k => k = d) w w1 → Calls Try.prog gf (first ++ caps) w1 fun e w2 => e = .returned (.tuple #[]) ∧ DkTo w1 d own w2 (does m.sooner)) :
    Calls Try.prog 49 #[.pointer (some ⟨d, 0, none⟩), .func (.func gf) first caps] w fun e w' => Did w d own (m.thing does) e w' := by
  have c9 : w.cell? ⟨d, 9, none⟩ = some (.bool m.down) := h.cell 9
  have H := Lib.hid h
  cases hd : m.down with
  | true =>
    rw [hd] at c9
    have e : m.thing does = (m, 82) := by unfold Dk.thing; rw [if_pos hd]
    rw [e]
    have HD := Lib.hid hd
    clear h hd hx hy hdo e
    go_enter Try.func49, Try.ntmps49
    go_wp2
    go_ret
    exact ⟨rfl, DkTo.same H.out (Spares.refl _ _)⟩
  | false =>
  rw [hd] at c9
  have HCL := Lib.hid (And.intro h.top hd)
  have HS := Lib.hid (And.intro hx hy)
  have HDO := Lib.hid (hdo hd)
  clear hx hy hdo h hd
  by_cases hc : m.cut = 0
  · have e : m.thing does = ({ m.sooner with cut := -1, down := true }, 82) := by unfold Dk.thing; rw [if_neg (by rw [HCL.out.2]; decide), if_pos hc]
    rw [e]
    clear e
    have HCF := Lib.hid (show ∀ w', Grows w w' → w'.cell? ⟨d, 8, none⟩ = some (.int .i64 0) ∧ w'.cell? ⟨d, 7, none⟩ = some (.int .i64 m.fail) from fun w' hg => ⟨by have := hg.cellq (i := 8) HCL.out.1; simp only [dCells, hc] at this; exact this, by have := hg.cellq (i := 7) HCL.out.1; exact this⟩)
    have HHC := Lib.hid hc
    skip
    skip
    skip
    skip
    skip
    clear hc 
    generalize hxf : m.fail = xf at HCF 
    generalize hxc : m.cut = xc at HCF 
    have HXF := Lib.hid (And.intro hxf hxc)
    clear hxf hxc
    go_enter Try.func49, Try.ntmps49
    go_wp2_with (fail)
    refine q_region mixed (by kernel_rfl) ?_
    iterate 12 (refine q_op' (v := ?_) (a' := ?_) (by rfl) ?_ ?_ ?_
                rotate_left 2
                · intro w' hC
                  obtain ⟨z0, z1⟩ := HCF.out w' hC
                  clear hC
                  go_simp
                  try with_reducible rfl
                · simp only [Act.put, List.setIfInBounds_toArray, List.set_cons_zero, List.set_cons_succ]
                  try rfl)
    refine wpQuiet_nil ?_
    intro w2 hC
    have HCw2 := Lib.hid hC
    clear hC
    have HW2 := Lib.hid (H.out.grow HCw2.out)
    clear HCF
    go_wp2_with (fail)
    refine (soon_any w2 HW2.out HS.out.1 HS.out.2).mono ?_
    rintro e w3 ⟨rfl, h3, s3⟩
    have H3 := Lib.hid h3
    have S3 := Lib.hid s3
    clear h3 s3
    go_wp2_with (fail)
    refine (soon_any2 w3 H3.out HS.out.2).mono ?_
    rintro e w4 ⟨rfl, h4, s4⟩
    have H4 := Lib.hid (show DkAt w4 d own G m.sooner from h4)
    have S4 := Lib.hid ((HCw2.out |> Spares.grows (own := fun k => k = d)).trans (S3.out.trans s4))
    clear h4 s4 S3 H3
    have c8 : w4.cell? ⟨d, 8, none⟩ = some (.int .i64 (sooner m.cut)) := H4.out.cell 8
    have f8 := H4.out.top.free 8
    have c9 : w4.cell? ⟨d, 9, none⟩ = some (.bool m.down) := H4.out.cell 9
    have f9 := H4.out.top.free 9
    go_wp2_with (fail)
    go_ret
    have h5 : DkAt (w4.setCell ⟨d, 8, none⟩ (.int .i64 (-1))) d own G { m.sooner with cut := -1 } := H4.out.set 8 _ rfl rfl rfl rfl rfl rfl
    have h6 : DkAt ((w4.setCell ⟨d, 8, none⟩ (.int .i64 (-1))).setCell ⟨d, 9, none⟩ (.bool true)) d own G { m.sooner with cut := -1, down := true } := h5.set 9 _ rfl rfl rfl rfl rfl rfl
    exact ⟨rfl, DkTo.same h6 ((S4.out.setCell (p := ⟨d, 8, none⟩) rfl _).setCell (p := ⟨d, 9, none⟩) rfl _)⟩
  by_cases hf : m.fail = 0
  · have e : m.thing does = ({ m.sooner with fail := -1 }, 81) := by unfold Dk.thing; rw [if_neg (by rw [HCL.out.2]; decide), if_neg hc, if_pos hf]
    rw [e]
    clear e
    have HCF := Lib.hid (show ∀ w', Grows w w' → w'.cell? ⟨d, 8, none⟩ = some (.int .i64 m.cut) ∧ w'.cell? ⟨d, 7, none⟩ = some (.int .i64 0) from fun w' hg => ⟨by have := hg.cellq (i := 8) HCL.out.1; exact this, by have := hg.cellq (i := 7) HCL.out.1; simp only [dCells, hf] at this; exact this⟩)
    have HHC := Lib.hid hc
    have d8 : (m.cut == 0) = false := by simpa using hc
    have d8' : decide (m.cut = 0) = false := by simpa using hc
    have HHF := Lib.hid hf
    skip
    skip
    clear hc hf
    generalize hxf : m.fail = xf at HCF 
    generalize hxc : m.cut = xc at HCF d8 d8'
    have HXF := Lib.hid (And.intro hxf hxc)
    clear hxf hxc
    go_enter Try.func49, Try.ntmps49
    go_wp2_with (fail)
    refine q_region mixed (by kernel_rfl) ?_
    iterate 12 (refine q_op' (v := ?_) (a' := ?_) (by rfl) ?_ ?_ ?_
                rotate_left 2
                · intro w' hC
                  obtain ⟨z0, z1⟩ := HCF.out w' hC
                  clear hC
                  go_simp
                  try with_reducible rfl
                · simp only [Act.put, List.setIfInBounds_toArray, List.set_cons_zero, List.set_cons_succ]
                  try rfl)
    refine wpQuiet_nil ?_
    intro w2 hC
    have HCw2 := Lib.hid hC
    clear hC
    have HW2 := Lib.hid (H.out.grow HCw2.out)
    clear HCF
    go_wp2_with (fail)
    refine (soon_any w2 HW2.out HS.out.1 HS.out.2).mono ?_
    rintro e w3 ⟨rfl, h3, s3⟩
    have H3 := Lib.hid h3
    have S3 := Lib.hid s3
    clear h3 s3
    go_wp2_with (fail)
    refine (soon_any2 w3 H3.out HS.out.2).mono ?_
    rintro e w4 ⟨rfl, h4, s4⟩
    have H4 := Lib.hid (show DkAt w4 d own G m.sooner from h4)
    have S4 := Lib.hid ((HCw2.out |> Spares.grows (own := fun k => k = d)).trans (S3.out.trans s4))
    clear h4 s4 S3 H3
    have c7 : w4.cell? ⟨d, 7, none⟩ = some (.int .i64 (sooner m.fail)) := H4.out.cell 7
    have f7 := H4.out.top.free 7
    go_wp2_with (fail)
    go_ret
    have h5 : DkAt (w4.setCell ⟨d, 7, none⟩ (.int .i64 (-1))) d own G { m.sooner with fail := -1 } := H4.out.set 7 _ rfl rfl rfl rfl rfl rfl
    exact ⟨rfl, DkTo.same h5 (S4.out.setCell (p := ⟨d, 7, none⟩) rfl _)⟩
  · have e : m.thing does = ({ does m.sooner with done := wrap64 ((does m.sooner).done + 1) }, 0) := by unfold Dk.thing; rw [if_neg (by rw [HCL.out.2]; decide), if_neg hc, if_neg hf]
    rw [e]
    clear e
    have HCF := Lib.hid (show ∀ w', Grows w w' → w'.cell? ⟨d, 8, none⟩ = some (.int .i64 m.cut) ∧ w'.cell? ⟨d, 7, none⟩ = some (.int .i64 m.fail) from fun w' hg => ⟨by have := hg.cellq (i := 8) HCL.out.1; exact this, by have := hg.cellq (i := 7) HCL.out.1; exact this⟩)
    have HHC := Lib.hid hc
    have d8 : (m.cut == 0) = false := by simpa using hc
    have d8' : decide (m.cut = 0) = false := by simpa using hc
    have HHF := Lib.hid hf
    have d7 : (m.fail == 0) = false := by simpa using hf
    have d7' : decide (m.fail = 0) = false := by simpa using hf
    clear hc hf
    generalize hxf : m.fail = xf at HCF d7 d7'
    generalize hxc : m.cut = xc at HCF d8 d8'
    have HXF := Lib.hid (And.intro hxf hxc)
    clear hxf hxc
    go_enter Try.func49, Try.ntmps49
    go_wp2_with (fail)
    refine q_region mixed (by kernel_rfl) ?_
    iterate 12 (refine q_op' (v := ?_) (a' := ?_) (by rfl) ?_ ?_ ?_
                rotate_left 2
                · intro w' hC
                  obtain ⟨z0, z1⟩ := HCF.out w' hC
                  clear hC
                  go_simp
                  try with_reducible rfl
                · simp only [Act.put, List.setIfInBounds_toArray, List.set_cons_zero, List.set_cons_succ]
                  try rfl)
    refine wpQuiet_nil ?_
    intro w2 hC
    have HCw2 := Lib.hid hC
    clear hC
    have HW2 := Lib.hid (H.out.grow HCw2.out)
    clear HCF
    go_wp2_with (fail)
    refine (soon_any w2 HW2.out HS.out.1 HS.out.2).mono ?_
    rintro e w3 ⟨rfl, h3, s3⟩
    have H3 := Lib.hid h3
    have S3 := Lib.hid s3
    clear h3 s3
    go_wp2_with (fail)
    refine (soon_any2 w3 H3.out HS.out.2).mono ?_
    rintro e w4 ⟨rfl, h4, s4⟩
    have H4 := Lib.hid (show DkAt w4 d own G m.sooner from h4)
    have S4 := Lib.hid ((HCw2.out |> Spares.grows (own := fun k => k = d)).trans (S3.out.trans s4))
    clear h4 s4 S3 H3
    go_wp2_with (fail)
    refine (HDO.out HHC.out HHF.out w4 H4.out S4.out).mono ?_
    rintro e w5 ⟨rfl, own', G', h5, s5, o5⟩
    have c6 : w5.cell? ⟨d, 6, none⟩ = some (.int .i64 (does m.sooner).done) := h5.cell 6
    have f6 := h5.top.free 6
    have H5 := Lib.hid h5
    have S5 := Lib.hid s5
    have O5 := Lib.hid o5
    clear h5 s5 o5
    generalize hm2 : does m.sooner = m2 at *
    have HM2 := Lib.hid hm2
    clear hm2
    go_wp2_with (fail)
    go_ret
    obtain rfl := HM2.out
    exact ⟨rfl, own', G', H5.out.set 6 _ rfl rfl rfl rfl rfl rfl, ((S4.out.wider fun k _ e => .inl e).trans S5.out).setCell (p := ⟨d, 6, none⟩) (.inl rfl) _, fun k hk => (O5.out k hk).imp id fun h => Nat.le_trans S4.out.size h⟩
end
end Go.Proofs.Ytmfhpfehphbklaa

