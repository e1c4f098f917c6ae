/-
  What Create does to names.
-/
import Derived.Test.YtmfhpfehphbklaaDkDo1
namespace Go.Proofs.Ytmfhpfehphbklaa
open Go.RowKit Go.Maps Go.WideMaps
set_option linter.unusedVariables false
set_option linter.unusedSimpArgs false

/-- A step of a walk with facts, told by its own fact. -/
theorem f_tell {P : Program} {ops : Array Oper} {W : World} {Q : Act → World → Prop} {o : Oper} {rest : List Oper} {fs : List (Fact Grows)} {ks : Known} {a : Act} {F : Fact Grows} (hw : Region.wanted o (yielded ops a.tmps) = true)
    (h1 : ∀ w, Grows W w → ks.for (o.looksAt ops) w → gives P F o a.eval w) (h2 : ∀ x, wpF P ops Grows W Q rest fs ((o.dst, F.R x) :: ks) (a.put o.dst (F.val x))) : wpF P ops Grows W Q (o :: rest) (F :: fs) ks a := by
  unfold wpF fStep
  rw [if_pos hw]
  exact ⟨h1, h2⟩
/-- A new block of these cells, from block N on. -/
def boxFact (N : Nat) (t : TypeId) (cs : Array Value) : Fact Grows := ⟨Nat, 0, fun g => .pointer (some ⟨g, 0, none⟩), fun g w => Whole w g t cs ∧ N ≤ g, fun _ _ _ h g => ⟨g.whole h.1, h.2⟩⟩
theorem gives_box {P : Program} {N : Nat} {t : TypeId} {cs : Array Value} {o : Oper} {ρ : Operand → Value} {w : World} (hN : N ≤ w.heap.size) (h : (execOp ρ o).run P w = .ok (.value (.pointer (some ⟨w.heap.size, 0, none⟩))) (w.alloc (.cells cs t))) : gives P (boxFact N t cs) o ρ w := by
  unfold gives
  rw [h]
  exact ⟨grows_alloc _ _, w.heap.size, rfl, Whole.made _ _ _, hN⟩
theorem gives_call {P : Program} {F : Fact Grows} {o : Oper} {ρ : Operand → Value} {w : World} {f : FuncId} {args : Array Value} (h : (execOp ρ o).run P w = .ok (.enter f args) w) (hc : Calls P f args w fun e w' => Grows w w' ∧ ∃ x, e = .returned (F.val x) ∧ F.R x w') : gives P F o ρ w := by
  unfold gives
  rw [h]
  exact hc
/-- The function that a file is made by, the file new. -/
def madeFact (N : Nat) (n : Nm) (cs : Array Value) : Fact Grows :=
  ⟨Nat × Nat, (0, 0), fun p => .func (.func 83) #[] #[.pointer (some ⟨p.2, 0, none⟩), .pointer (some ⟨p.1, 0, none⟩)],
    fun p w => ∃ g, Whole w p.1 9 #[strB n] ∧ Whole w p.2 91 #[ptrV g] ∧ Whole w g 98 cs ∧ N ≤ p.1 ∧ N ≤ p.2 ∧ N ≤ g, fun _ _ _ ⟨g, h1, h2, h3, h4⟩ hg => ⟨g, hg.whole h1, hg.whole h2, hg.whole h3, h4⟩⟩

section
variable {w : World} {d : Nat} {own : Nat → Prop} {G : Geo} {m : Dk}

set_option maxHeartbeats 4000000 in
set_option maxRecDepth 100000 in
theorem create_do (w : World) {n : Nm} (h : DkAt w d own G m) {a0 b0 : Nat} (ha : Whole w a0 40 #[ptrV d]) (hb : Whole w b0 9 #[strB n]) (ho : ∀ k, k = a0 ∨ k = b0 → k ≠ d ∧ ¬ own k)
    (hn : n.length ≤ 1000000) (h1 : m.made ≤ 1000000000) (h2 : m.pend.length ≤ 1000000000) (h3 : m.names.length ≤ 1000000000) :
    Calls Try.prog 50 #[ptrV a0, ptrV b0] w fun e w' => e = .returned (.tuple #[]) ∧ DkTo w d own w' (m.doCreate n) := by
  have HCL := Lib.hid (show ∀ w', Grows w w' → w'.cell? ⟨a0, 0, none⟩ = some (.pointer (some ⟨d, 0, none⟩)) ∧ w'.cell? ⟨b0, 0, none⟩ = some (.string ⟨n.toArray⟩) ∧ w'.cell? ⟨d, 1, none⟩ = some (.int .i64 (m.made : Int)) from fun w' hg => ⟨hg.cellq ha, hg.cellq hb, hg.cellq h.top⟩)
  have HDK := Lib.hid h
  have HA := Lib.hid (And.intro ha ho)
  have HB := Lib.hid (And.intro h1 (And.intro h2 (And.intro h3 hn)))
  clear h ha hb ho h1 h2 h3 hn
  generalize hmd : m.made = md at HCL
  have HMD := Lib.hid hmd
  clear hmd
  unfold ptrV
  go_enter Try.func50, Try.ntmps50
  go_wp2_with (fail)
  refine wp_region_facts_tail (E := Grows) 9 [valFact (.pointer (some ⟨d, 0, none⟩)), valFact (.string ⟨n.toArray⟩), valFact (.pointer (some ⟨d, 0, none⟩)), valFact (.pointer (some ⟨d, 0, none⟩)), valFact (.pointer (some ⟨d, 1, none⟩)), valFact (.int .i64 (md : Int)), valFact (.agg #[.int .i64 (md : Int), .slice none 0 0, .int .i64 0]), boxFact w.heap.size 98 #[.int .i64 (md : Int), .slice none 0 0, .int .i64 0], madeFact w.heap.size n #[.int .i64 (md : Int), .slice none 0 0, .int .i64 0]] mixed (by kernel_rfl) (fun _ _ _ => Grows.trans) (grows_drew _) ?_
  simp only [List.take_succ_cons, List.take_zero, List.drop_succ_cons, List.drop_zero]
  refine f_val (.pointer (some ⟨d, 0, none⟩)) (by rfl) ?_ ?_
  · intro w' hC; obtain ⟨q1, q2, q3⟩ := HCL.out w' hC; clear hC; go_simp
  simp only [Act.put, List.setIfInBounds_toArray, List.set_cons_zero, List.set_cons_succ]
  refine f_val (.string ⟨n.toArray⟩) (by rfl) ?_ ?_
  · intro w' hC; obtain ⟨q1, q2, q3⟩ := HCL.out w' hC; clear hC; go_simp
  simp only [Act.put, List.setIfInBounds_toArray, List.set_cons_zero, List.set_cons_succ]
  refine f_val (.pointer (some ⟨d, 0, none⟩)) (by rfl) ?_ ?_
  · intro w' hC; obtain ⟨q1, q2, q3⟩ := HCL.out w' hC; clear hC; go_simp
  simp only [Act.put, List.setIfInBounds_toArray, List.set_cons_zero, List.set_cons_succ]
  refine f_val (.pointer (some ⟨d, 0, none⟩)) (by rfl) ?_ ?_
  · intro w' hC; obtain ⟨q1, q2, q3⟩ := HCL.out w' hC; clear hC; go_simp
  simp only [Act.put, List.setIfInBounds_toArray, List.set_cons_zero, List.set_cons_succ]
  refine f_val (.pointer (some ⟨d, 1, none⟩)) (by rfl) ?_ ?_
  · intro w' hC; obtain ⟨q1, q2, q3⟩ := HCL.out w' hC; clear hC; go_simp
  simp only [Act.put, List.setIfInBounds_toArray, List.set_cons_zero, List.set_cons_succ]
  refine f_val (.int .i64 (md : Int)) (by rfl) ?_ ?_
  · intro w' hC; obtain ⟨q1, q2, q3⟩ := HCL.out w' hC; clear hC; go_simp
  simp only [Act.put, List.setIfInBounds_toArray, List.set_cons_zero, List.set_cons_succ]
  refine f_val (.agg #[.int .i64 (md : Int), .slice none 0 0, .int .i64 0]) (by rfl) ?_ ?_
  · intro w' hC; clear hC; go_simp
  simp only [Act.put, List.setIfInBounds_toArray, List.set_cons_zero, List.set_cons_succ]
  refine f_tell (by rfl) ?_ ?_
  · intro w' hC _
    refine gives_box hC.size ?_
    clear hC; go_simp
  intro gb
  show wpF _ _ _ _ _ _ _ _ (Act.put _ _ (.pointer (some ⟨gb, 0, none⟩)))
  simp only [Act.put, List.setIfInBounds_toArray, List.set_cons_zero, List.set_cons_succ]
  refine f_tell (by rfl) ?_ ?_
  · intro w' hC hk
    have hgk := Known.get hk 0 (d := 9) rfl rfl
    refine gives_call (f := 52) (args := #[.string ⟨n.toArray⟩, .pointer (some ⟨gb, 0, none⟩)]) (by clear hC hk hgk; go_simp) ?_
    refine (made_any n gb w' HB.out.2.2.2).mono ?_
    rintro e w'' ⟨a, b, rfl, k1, k2, k3, k4, k5⟩
    exact ⟨k5, (a, b), rfl, gb, k1, k2, k5.whole hgk.1, Nat.le_trans hC.size k3, Nat.le_trans hC.size k4, hgk.2⟩
  rintro ⟨a2, b2⟩
  show wpF _ _ _ _ _ _ _ _ (Act.put _ _ (.func (.func 83) #[] #[.pointer (some ⟨b2, 0, none⟩), .pointer (some ⟨a2, 0, none⟩)]))
  simp only [Act.put, List.setIfInBounds_toArray, List.set_cons_zero, List.set_cons_succ]
  refine wpF_end ?_
  intro w2 hC hks
  have HCw2 := Lib.hid hC
  have HF := Lib.hid (Known.at hks 0 rfl)
  clear hC hks
  obtain ⟨g, hg1, hg2, hg3, hg4, hg5, hg6⟩ := HF.out
  have h1 : DkAt w2 d own G m := HDK.out.grow HCw2.out
  have hsz := HCw2.out.size
  have hno : ∀ k, w.heap.size ≤ k → ¬ own k ∧ k ≠ d := fun k hk => ⟨fun e => by have := HDK.out.rest.lt k e; omega, fun e => by have := HDK.out.top.lt; omega⟩
  obtain rfl := HMD.out
  have h2 := (h1.rest.making hg3 (hno g hg6).1).wider (own' := fun k => own k ∨ k = g ∨ k = a2 ∨ k = b2) (fun k hk => hk.imp id .inl) (by
    rintro k (hk | rfl | rfl | rfl)
    · exact h1.rest.lt k hk
    · exact hg3.lt
    · exact hg1.lt
    · exact hg2.lt)
  have hch : ChAt w2 (fun k => own k ∨ k = g ∨ k = a2 ∨ k = b2) (m.made + 1) (fun j => if j = m.made then g else G.loc j) (.func (.func 83) #[] #[.pointer (some ⟨b2, 0, none⟩), .pointer (some ⟨a2, 0, none⟩)]) (.made n m.made) :=
    ⟨by have := HB.out.2.2.2; unfold maxLen; omega, Nat.lt_succ_self _, a2, b2, rfl, .inr (.inr (.inl rfl)), .inr (.inr (.inr rfl)), by simp only [if_true]; exact hg2, hg1⟩
  have hnd : ¬ (own d ∨ d = g ∨ d = a2 ∨ d = b2) := by
    rintro (e | e | e | e)
    · exact h1.free e
    · exact (hno g hg6).2 e.symm
    · exact (hno a2 hg4).2 e.symm
    · exact (hno b2 hg5).2 e.symm
  have HCH := Lib.hid (change_any w2 h2 h1.top hnd hch (by exact HB.out.2.1) (by exact HB.out.2.2.1))
  have HOW := Lib.hid (And.intro hg4 (And.intro hg5 hg6))
  have HAW := Lib.hid (And.intro (HCw2.out.whole HA.out.1) (And.intro (HA.out.2 a0 (.inl rfl)) HA.out.1.lt))
  clear hg1 hg2 hg3 hg4 hg5 hg6 h1 h2 hch hnd HF hno hsz
  go_wp2_with (fail)
  refine HCH.out.mono ?_
  rintro e w3 ⟨rfl, ⟨own3, G3, r3, t3, n3, o3⟩, s3⟩
  have c1 : w3.cell? ⟨d, 1, none⟩ = some (.int .i64 (m.made : Int)) := t3.cell 1
  have f1 := t3.free 1
  have c0 : w3.cell? ⟨a0, 0, none⟩ = some (.pointer (some ⟨d, 0, none⟩)) := (HAW.out.1.same (s3.same a0 HAW.out.1.lt (by
    have := HAW.out.2.2
    rintro (e | e | e | e | e)
    · exact HAW.out.2.1.1 e
    · exact HAW.out.2.1.2 e
    · have := HOW.out.2.2; omega
    · have := HOW.out.1; omega
    · have := HOW.out.2.1; omega))).cell 0
  have R3 := Lib.hid (And.intro r3 (And.intro t3 (And.intro n3 (And.intro o3 s3))))
  clear r3 t3 n3 o3 s3 HCH HAW
  have e1 : wrap64 ((m.made : Int) + 1) = ((m.made + 1 : Nat) : Int) := by
    have := HB.out.1
    rw [IntWalk.wrap64_in _ (by omega)]
    rfl
  go_wp2_with (fail)
  go_end0
  obtain ⟨r3, t3, n3, o3, s3⟩ := R3.out
  have hsz := HCw2.out.size
  refine ⟨rfl, own3, G3, ⟨(r3.stay (fun k hk => Below.heap_setCell _ _ _ _ fun e => n3 (by have e : k = d := e; exact e ▸ hk)) (by simp [World.setCell])).like rfl rfl rfl rfl rfl, ?_, n3⟩, ?_, ?_⟩
  · have := t3.put 1 (.int .i64 ((m.made + 1 : Nat) : Int))
    exact this
  · refine (((Spares.grows HCw2.out).trans (s3.wider (own' := fun k => (k = d ∨ own k) ∨ w.heap.size ≤ k) fun k _ hk => ?_)).setCell (p := ⟨d, 1, none⟩) (.inl (.inl rfl)) _).wider fun k hk h => h.elim id fun h => by omega
    rcases hk with e | e | e | e | e
    · exact .inl (.inl e)
    · exact .inl (.inr e)
    · exact .inr (e ▸ HOW.out.2.2)
    · exact .inr (e ▸ HOW.out.1)
    · exact .inr (e ▸ HOW.out.2.1)
  · intro k hk
    rcases o3 k hk with (e | e | e | e) | e
    · exact .inl e
    · exact .inr (e ▸ HOW.out.2.2)
    · exact .inr (e ▸ HOW.out.1)
    · exact .inr (e ▸ HOW.out.2.1)
    · exact .inr (by omega)
end
end Go.Proofs.Ytmfhpfehphbklaa

