/-
  The six things.
-/
import Derived.Test.YtmfhpfehphbklaaDkKeep
namespace Go.Proofs.Ytmfhpfehphbklaa
open Go.RowKit Go.Maps Go.WideMaps
set_option linter.unusedVariables false
set_option linter.unusedSimpArgs false
attribute [local irreducible] Go.wpQuiet

section
variable {w : World} {d : Nat} {own : Nat → Prop} {G : Geo} {m : Dk}
set_option maxHeartbeats 4000000 in
set_option maxRecDepth 100000 in
theorem syncdir_do (w : World) (h : DkAt w d own G m) {a0 : Nat} (ha : Whole w a0 40 #[ptrV d]) (h1 : m.pend.length ≤ 1000000000) (h2 : m.kept.length ≤ 1000000000) :
    Calls Try.prog 56 #[ptrV a0] w fun e w' => e = .returned (.tuple #[]) ∧ DkTo w d own w' (m.keep m.pend.length) := by
  obtain ⟨A, c, hA, _⟩ := slice_of_owned h.rest.pend
  have HCL := Lib.hid (show ∀ w', Grows w w' → w'.cell? ⟨a0, 0, none⟩ = some (.pointer (some ⟨d, 0, none⟩)) ∧ w'.cell? ⟨d, 5, none⟩ = some (.slice A m.pend.length c) from fun w' hg => ⟨hg.cellq ha, by rw [← hA]; exact hg.cellq h.top⟩)
  have HK := Lib.hid (fun w2 hg => keep_names (k := m.pend.length) w2 (DkAt.grow h hg) (Nat.le_refl _) h1 h2)
  have HDK := Lib.hid h
  clear h ha h1 h2 hA
  generalize m.pend.length = N at *
  unfold ptrV
  go_enter Try.func56, Try.ntmps56
  go_wp2_with (fail)
  refine wp_region_facts_tail (E := Grows) 6 [valFact (.pointer (some ⟨d, 0, none⟩)), valFact (.pointer (some ⟨d, 0, none⟩)), valFact (.pointer (some ⟨d, 0, none⟩)), valFact (.pointer (some ⟨d, 5, none⟩)), valFact (.slice A N c), valFact (.int .i64 (N : Int))] mixed (by kernel_rfl) (fun _ _ _ => Grows.trans) (grows_drew _) ?_
  simp only [List.take_succ_cons, List.take_zero, List.drop_succ_cons, List.drop_zero]
  refine f_val (.pointer (some ⟨d, 0, none⟩)) (by rfl) ?_ ?_
  · intro w' hC; obtain ⟨q1, q2⟩ := HCL.out w' hC; clear hC; go_simp
  simp only [Act.put, List.setIfInBounds_toArray, List.set_cons_zero, List.set_cons_succ]
  refine f_val (.pointer (some ⟨d, 0, none⟩)) (by rfl) ?_ ?_
  · intro w' hC; obtain ⟨q1, q2⟩ := HCL.out w' hC; clear hC; go_simp
  simp only [Act.put, List.setIfInBounds_toArray, List.set_cons_zero, List.set_cons_succ]
  refine f_val (.pointer (some ⟨d, 0, none⟩)) (by rfl) ?_ ?_
  · intro w' hC; obtain ⟨q1, q2⟩ := HCL.out w' hC; clear hC; go_simp
  simp only [Act.put, List.setIfInBounds_toArray, List.set_cons_zero, List.set_cons_succ]
  refine f_val (.pointer (some ⟨d, 5, none⟩)) (by rfl) ?_ ?_
  · intro w' hC; obtain ⟨q1, q2⟩ := HCL.out w' hC; clear hC; go_simp
  simp only [Act.put, List.setIfInBounds_toArray, List.set_cons_zero, List.set_cons_succ]
  refine f_val (.slice A N c) (by rfl) ?_ ?_
  · intro w' hC; obtain ⟨q1, q2⟩ := HCL.out w' hC; clear hC; go_simp
  simp only [Act.put, List.setIfInBounds_toArray, List.set_cons_zero, List.set_cons_succ]
  refine f_val (.int .i64 (N : Int)) (by rfl) ?_ ?_
  · intro w' hC; clear hC; go_simp
  simp only [Act.put, List.setIfInBounds_toArray, List.set_cons_zero, List.set_cons_succ]
  refine wpF_end ?_
  intro w2 hC hks
  have HCw2 := Lib.hid hC
  clear hC hks
  go_wp2_with (fail)
  refine (HK.out w2 HCw2.out).mono ?_
  rintro e w5 ⟨rfl, h5⟩
  have H5 := Lib.hid h5
  clear h5 HK
  go_wp2_with (fail)
  go_end0
  refine ⟨rfl, ?_⟩
  obtain ⟨own', G', k1, k2, k3⟩ := H5.out
  exact ⟨own', G', k1, (Spares.grows HCw2.out).trans k2, fun k hk => (k3 k hk).imp id fun h => Nat.le_trans HCw2.out.size h⟩

/-- From a world that has grown. -/
theorem Did.behind {w w1 w' : World} {r : Dk × Int} {e : Ending} (hg : Grows w w1) (h : Did w1 d own r e w') : Did w d own r e w' := by
  obtain ⟨h1, own', G', k1, k2, k3⟩ := h
  exact ⟨h1, own', G', k1, (Spares.grows hg).trans k2, fun k hk => (k3 k hk).imp id fun h => Nat.le_trans hg.size h⟩
theorem Did.none {w w' : World} (h : DkAt w d own G m) (hg : Grows w w') (e : Int) : Did w d own (m, e) (.returned (.int .i64 e)) w' := ⟨rfl, own, G, h.grow hg, Spares.grows hg, fun k hk => .inl hk⟩

/-- Numbers that a disk holds are not too great. -/
structure DkFit (m : Dk) : Prop where
  cut : -1 ≤ m.cut ∧ m.cut ≤ 9223372036854775807
  fail : -1 ≤ m.fail ∧ m.fail ≤ 9223372036854775807
  made : m.made ≤ 1000000000
  pend : m.pend.length ≤ 1000000000
  names : m.names.length ≤ 1000000000
  kept : m.kept.length ≤ 1000000000
  bytes : ∀ i, i < m.made → (m.files i).bytes.length ≤ 1000000000 ∧ (m.files i).kept ≤ (m.files i).bytes.length
theorem DkFit.sooner (h : DkFit m) (hc : m.cut ≠ 0) (hf : m.fail ≠ 0) : DkFit m.sooner := by
  have h1 := h.cut
  have h2 := h.fail
  refine ⟨?_, ?_, h.made, h.pend, h.names, h.kept, h.bytes⟩
  · show -1 ≤ Go.Proofs.Ytmfhpfehphbklaa.sooner m.cut ∧ Go.Proofs.Ytmfhpfehphbklaa.sooner m.cut ≤ _
    unfold Go.Proofs.Ytmfhpfehphbklaa.sooner
    split <;> omega
  · show -1 ≤ Go.Proofs.Ytmfhpfehphbklaa.sooner m.fail ∧ Go.Proofs.Ytmfhpfehphbklaa.sooner m.fail ≤ _
    unfold Go.Proofs.Ytmfhpfehphbklaa.sooner
    split <;> omega

set_option maxHeartbeats 4000000 in
set_option maxRecDepth 100000 in
theorem syncDir_any (w : World) (h : DkAt w d own G m) (hF : DkFit m) : Calls Try.prog 29 #[.pointer (some ⟨d, 0, none⟩)] w fun e w' => Did w d own m.syncDir e w' := by
  have hg : Grows w (w.alloc (.cells #[.pointer (some ⟨d, 0, none⟩)] 40)) := grows_alloc _ _
  have ha : Whole (w.alloc (.cells #[.pointer (some ⟨d, 0, none⟩)] 40)) w.heap.size 40 #[ptrV d] := Whole.made _ _ _
  have HT := Lib.hid (thing_any _ (h.grow hg) hF.cut hF.fail 56 #[] #[.pointer (some ⟨w.heap.size, 0, none⟩)] (fun args w => by kernel_rfl) (fun m => m.keep m.pend.length)
    fun _ hc hf w1 h1 s1 => syncdir_do w1 h1 (ha.same (s1.same _ ha.lt (by have := h.top.lt; omega))) hF.pend hF.kept)
  clear h hF ha hg
  go_enter Try.func29, Try.ntmps29
  go_wp2_with (fail)
  refine HT.out.mono ?_
  rintro e w2 ⟨rfl, h2⟩
  have H2 := Lib.hid h2
  clear h2 HT
  go_wp2_with (fail)
  go_ret
  exact Did.behind (grows_alloc _ _) ⟨rfl, H2.out⟩

set_option maxHeartbeats 8000000 in
set_option maxRecDepth 100000 in
theorem create_any (w : World) (n : Nm) (h : DkAt w d own G m) (hF : DkFit m) (hn : n.length ≤ 1000000) : Calls Try.prog 26 #[.pointer (some ⟨d, 0, none⟩), .string ⟨n.toArray⟩] w fun e w' => Did w d own (m.create n) e w' := by
  have hg : Grows w ((w.alloc (.cells #[.pointer (some ⟨d, 0, none⟩)] 40)).alloc (.cells #[.string ⟨n.toArray⟩] 9)) := (grows_alloc _ _).trans (grows_alloc _ _)
  have ha : Whole ((w.alloc (.cells #[.pointer (some ⟨d, 0, none⟩)] 40)).alloc (.cells #[.string ⟨n.toArray⟩] 9)) w.heap.size 40 #[ptrV d] := (Whole.made _ _ _).alloc _
  have hb : Whole ((w.alloc (.cells #[.pointer (some ⟨d, 0, none⟩)] 40)).alloc (.cells #[.string ⟨n.toArray⟩] 9)) (w.heap.size + 1) 9 #[strB n] := by
    have := Whole.made (w.alloc (.cells #[.pointer (some ⟨d, 0, none⟩)] 40)) 9 #[strB n]
    rwa [World.size_alloc] at this
  have hnm : n.length ≤ maxLen := by unfold maxLen; omega
  have h0 := h.grow hg
  have HT := Lib.hid (fun w3 (g3 : Grows ((w.alloc (.cells #[.pointer (some ⟨d, 0, none⟩)] 40)).alloc (.cells #[.string ⟨n.toArray⟩] 9)) w3) => thing_any w3 (h0.grow g3) hF.cut hF.fail 50 #[] #[.pointer (some ⟨w.heap.size, 0, none⟩), .pointer (some ⟨w.heap.size + 1, 0, none⟩)] (fun args w => by kernel_rfl) (Dk.doCreate n)
    fun _ hc hf w1 h1 s1 => by
      have hl := h.top.lt
      refine create_do w1 h1 ((g3.whole ha).same (s1.same _ (g3.whole ha).lt (by omega))) ((g3.whole hb).same (s1.same _ (g3.whole hb).lt (by omega))) ?_ hn hF.made hF.pend hF.names
      rintro k (rfl | rfl)
      · exact ⟨by omega, fun e => by have := h.rest.lt _ e; omega⟩
      · exact ⟨by omega, fun e => by have := h.rest.lt _ e; omega⟩)
  have c9 : ((w.alloc (.cells #[.pointer (some ⟨d, 0, none⟩)] 40)).alloc (.cells #[.string ⟨n.toArray⟩] 9)).cell? ⟨d, 9, none⟩ = some (.bool m.down) := h0.cell 9
  have HDK := Lib.hid (And.intro h hg)
  unfold Dk.create
  cases hd : m.down with
  | true =>
    rw [hd] at c9
    rw [if_pos rfl]
    clear h hF ha hb hn hnm h0 HT hg hd
    go_enter Try.func26, Try.ntmps26
    go_wp2
    go_ret
    exact Did.none HDK.out.1 HDK.out.2 82
  | false =>
  rw [hd] at c9
  rw [if_neg (by decide)]
  have HR := Lib.hid (right_any n)
  cases hr : right n with
  | false =>
    rw [hr] at HR
    rw [if_pos rfl]
    clear h hF ha hb hn hnm h0 HT hg hd hr
    go_enter Try.func26, Try.ntmps26
    go_wp2_with (fail)
    refine (HR.out _).mono ?_
    rintro e w2 ⟨rfl, rfl⟩
    go_wp2_with (fail)
    go_ret
    exact Did.none HDK.out.1 HDK.out.2 1
  | true =>
  rw [hr] at HR
  rw [if_neg (by decide)]
  have HL := Lib.hid (show ∀ w', Grows ((w.alloc (.cells #[.pointer (some ⟨d, 0, none⟩)] 40)).alloc (.cells #[.string ⟨n.toArray⟩] 9)) w' → (Instr.lookup 86 (.map (some G.nb)) (.string ⟨n.toArray⟩) false).run Try.prog w' = .ok (fileV G.loc m.names n) w' ∧
      w'.cell? ⟨d, 3, none⟩ = some (.map (some G.nb)) ∧ w'.cell? ⟨w.heap.size, 0, none⟩ = some (.pointer (some ⟨d, 0, none⟩)) ∧ w'.cell? ⟨w.heap.size + 1, 0, none⟩ = some (.string ⟨n.toArray⟩) from fun w' hg' => ⟨(h0.grow hg').look1 hnm, hg'.cellq h0.top, hg'.cellq ha, hg'.cellq hb⟩)
  have HLT := Lib.hid (fun f => h.find_lt (f := f) hnm)
  clear ha hb hn hnm hF
  cases hf : Dir.find n m.names with
  | some f =>
    rw [fileV_some hf] at HL
    rw [if_pos (show (some f).isSome = true from rfl)]
    unfold ptrV at HL
    clear h h0 HT hg hd hr hf
    go_enter Try.func26, Try.ntmps26
    go_wp2_with (fail)
    refine (HR.out _).mono ?_
    rintro e w2 ⟨rfl, rfl⟩
    go_wp2_with (fail)
    refine q_region mixed (by kernel_rfl) ?_
    iterate 8 (refine q_op' (v := ?_) (a' := ?_) (by rfl) ?_ ?_ ?_
               rotate_left 2
               · intro w' hC
                 obtain ⟨z0, z1, z2, z3⟩ := HL.out w' hC
                 clear hC
                 go_simp
                 try with_reducible rfl
               · simp only [Act.put, List.setIfInBounds_toArray, List.set_cons_zero, List.set_cons_succ]
                 try rfl)
    refine wpQuiet_nil ?_
    intro w3 hC
    have HCw3 := Lib.hid hC
    clear hC
    go_wp2_with (fail)
    go_ret
    exact Did.none HDK.out.1 (HDK.out.2.trans HCw3.out) 4
  | none =>
  rw [fileV_none hf] at HL
  rw [if_neg (by decide)]
  have HM := Lib.hid h0.rest.names
  by_cases hlen : 4096 ≤ m.names.length
  · rw [if_pos hlen]
    have d1 : decide ((m.names.length : Int) ≥ 4096) = true := decide_eq_true (by omega)
    clear h h0 HT hg hd hr hf hlen
    generalize hnl : m.names.length = nl at *
    have HNL := Lib.hid hnl
    clear hnl
    go_enter Try.func26, Try.ntmps26
    go_wp2_with (fail)
    refine (HR.out _).mono ?_
    rintro e w2 ⟨rfl, rfl⟩
    go_wp2_with (fail)
    refine q_region mixed (by kernel_rfl) ?_
    iterate 8 (refine q_op' (v := ?_) (a' := ?_) (by rfl) ?_ ?_ ?_
               rotate_left 2
               · intro w' hC
                 obtain ⟨z0, z1, z2, z3⟩ := HL.out w' hC
                 clear hC
                 go_simp
                 try with_reducible rfl
               · simp only [Act.put, List.setIfInBounds_toArray, List.set_cons_zero, List.set_cons_succ]
                 try rfl)
    refine wpQuiet_nil ?_
    intro w3 hC
    have HCw3 := Lib.hid hC
    clear hC
    obtain ⟨_, z1, z2, z3⟩ := HL.out w3 HCw3.out
    have hm3 : OwnsDir w3 m.made G.loc G.nb m.names := map_same HM.out (HCw3.out.block _ (World.ownsMap.lt HM.out))
    have HLE := Lib.hid (fun ty => World.ownsMap.len hm3 Try.underlying86 ty)
    rw [size_enc, HNL.out] at HLE
    have hle := HLE.out
    clear hm3 HLE
    go_wp2_with (fail)
    go_ret
    exact Did.none HDK.out.1 (HDK.out.2.trans HCw3.out) 2
  · rw [if_neg hlen]
    have d1 : decide ((m.names.length : Int) ≥ 4096) = false := decide_eq_false (by omega)
    clear h h0 hg hd hr hf hlen
    generalize hnl : m.names.length = nl at *
    have HNL := Lib.hid hnl
    clear hnl
    go_enter Try.func26, Try.ntmps26
    go_wp2_with (fail)
    refine (HR.out _).mono ?_
    rintro e w2 ⟨rfl, rfl⟩
    go_wp2_with (fail)
    refine q_region mixed (by kernel_rfl) ?_
    iterate 8 (refine q_op' (v := ?_) (a' := ?_) (by rfl) ?_ ?_ ?_
               rotate_left 2
               · intro w' hC
                 obtain ⟨z0, z1, z2, z3⟩ := HL.out w' hC
                 clear hC
                 go_simp
                 try with_reducible rfl
               · simp only [Act.put, List.setIfInBounds_toArray, List.set_cons_zero, List.set_cons_succ]
                 try rfl)
    refine wpQuiet_nil ?_
    intro w3 hC
    have HCw3 := Lib.hid hC
    clear hC
    obtain ⟨_, z1, z2, z3⟩ := HL.out w3 HCw3.out
    have hm3 : OwnsDir w3 m.made G.loc G.nb m.names := map_same HM.out (HCw3.out.block _ (World.ownsMap.lt HM.out))
    have HLE := Lib.hid (fun ty => World.ownsMap.len hm3 Try.underlying86 ty)
    rw [size_enc, HNL.out] at HLE
    have hle := HLE.out
    clear hm3 HLE
    go_wp2_with (fail)
    refine (HT.out w3 HCw3.out).mono ?_
    rintro e w4 ⟨rfl, h4⟩
    have H4 := Lib.hid h4
    clear h4 HT
    go_wp2_with (fail)
    go_ret
    exact Did.behind (HDK.out.2.trans HCw3.out) ⟨rfl, H4.out⟩
end
end Go.Proofs.Ytmfhpfehphbklaa

