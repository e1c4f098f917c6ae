/-
  A directory's Put, Del.
-/
import Derived.Test.YtadgbobemmfjoaaKsDir
namespace Go.Proofs.Ytadgbobemmfjoaa
open Go.RowKit
set_option linter.unusedVariables false
set_option linter.unusedSimpArgs false
attribute [local irreducible] wpF

theorem putL_keys {p : Pl} {L : List Pl} (hp : p.key.length ≤ 1000000000) (h : ∀ q ∈ L, q.key.length ≤ 1000000000) : ∀ q ∈ kputL p L, q.key.length ≤ 1000000000 := fun q hq => by
  rcases mem_putL.1 hq with rfl | ⟨h1, _⟩
  · exact hp
  · exact h q h1
theorem delL_keys {key : List UInt8} {L : List Pl} (h : ∀ q ∈ L, q.key.length ≤ 1000000000) : ∀ q ∈ delL key L, q.key.length ≤ 1000000000 := fun q hq => h q (mem_delL.1 hq).1
section
variable {d : Nat} {own : Nat → Prop} {L : List Pl} {R : Rows} {G : Nat → Nat} {S : Nat → Nat → Prop} {vs : Nat → List Value} {cs : Array Value}
theorem put_in (p : Pl) (hk : p.key.length ≤ 1000000000) (w : World) (h : DirMem w d own R G S vs cs) (hK : KsOk R L) (hks : ∀ q ∈ L, q.key.length ≤ 1000000000) (hn : L.length < 400000) :
    Calls Try.prog 35 #[.pointer (some ⟨d, rowOf p.key * 2, none⟩), plV p] w fun e w' => e = .returned (plTo (getL p.key L)) ∧ DirTo w d own (kputL p L) w' := by
  have hr := rowOf_lt p.key
  have h1 := krput_any p hk w (h.row hr) (hK.row _ hr) rfl (by have := hK.rowLe hr; omega) (hK.keys hks hr)
  rw [hK.get] at h1
  refine h1.mono ?_
  rintro e w' ⟨rfl, ht⟩
  obtain ⟨own', G', S', vs', cs', a1, a2, a3⟩ := h.turned hr ht
  exact ⟨rfl, own', ⟨⟨_, G', S', vs', cs', a1, hK.put p⟩, putL_keys hk hks⟩, a2, a3⟩
theorem del_in (key : List UInt8) (hk : key.length ≤ 1000000000) (w : World) (h : DirMem w d own R G S vs cs) (hK : KsOk R L) (hks : ∀ q ∈ L, q.key.length ≤ 1000000000) (hn : L.length < 400000) :
    Calls Try.prog 29 #[.pointer (some ⟨d, rowOf key * 2, none⟩), .string ⟨key.toArray⟩] w fun e w' => e = .returned (plTo (getL key L)) ∧ DirTo w d own (delL key L) w' := by
  have hr := rowOf_lt key
  have h1 := rdel_any key hk w (h.row hr) (hK.row _ hr) (by have := hK.rowLe hr; omega) (hK.keys hks hr)
  rw [hK.get] at h1
  refine h1.mono ?_
  rintro e w' ⟨rfl, ht⟩
  obtain ⟨own', G', S', vs', cs', a1, a2, a3⟩ := h.turned hr ht
  exact ⟨rfl, own', ⟨⟨_, G', S', vs', cs', a1, hK.del key⟩, delL_keys hks⟩, a2, a3⟩
end
theorem DirTo.kept {w0 w2 w3 : World} {d : Nat} {own : Nat → Prop} {L L' : List Pl} (h0 : DirIn w0 d own L) (hg : Grows w0 w2) (h : DirTo w2 d own L' w3) {k : Nat} (hk : w0.heap.size ≤ k) (hk2 : k < w2.heap.size) : w3.heap[k]? = w2.heap[k]? := by
  obtain ⟨own', _, _, h3⟩ := h
  have := h0.lt
  exact h3.same k hk2 fun e => e.elim (fun e => by have := this.2 k e; omega) fun e => by omega
theorem DirTo.row {w0 w3 : World} {d kb : Nat} {own : Nat → Prop} {L L' : List Pl} (h0 : DirIn w0 d own L) (w2 : World) (hg : Grows w0 w2) (h : DirTo w2 d own L' w3) (hk : w0.heap.size ≤ kb) (hk2 : kb < w2.heap.size) (c : Array Value) : DirTo w0 d own L' (w3.setRow kb c) := by
  have hlt := h0.lt
  obtain ⟨own', h1, h2, h3⟩ := h
  have hoth : ∀ k, k ≠ kb → (w3.setRow kb c).heap[k]? = w3.heap[k]? := fun k hk => setRow_other w3 kb k c hk
  have hne : ∀ k, (own' k ∨ k = d) → k ≠ kb := fun k hk e => by
    have hl1 := hlt.1
    rcases hk with hk | hk
    · rcases h2 k hk with h | h
      · have := hlt.2 k h; omega
      · omega
    · omega
  have a1 : Spares (fun k => own k ∨ k = d) w0 w3 := (Spares.grows hg).trans h3
  obtain ⟨⟨R, G, S, vs, cs, k1, k2⟩, k3⟩ := h1
  refine ⟨own', ⟨⟨R, G, S, vs, cs, k1.same (by simp) (hoth d (hne d (.inr rfl))) (fun k hk => hoth k (hne k (.inl hk))), k2⟩, k3⟩, fun k hk => (h2 k hk).imp_right fun e => Nat.le_trans hg.size e, ⟨a1.os, a1.tape, a1.output, by simpa using a1.size, fun k hk hn => (hoth k (by omega)).trans (a1.same k hk hn)⟩⟩
set_option maxHeartbeats 1000000 in
set_option maxRecDepth 100000 in
theorem kput_any {d : Nat} {own : Nat → Prop} {L : List Pl} (p : Pl) (hk : p.key.length ≤ 1000000000) (w : World) (h : DirIn w d own L) (hn : L.length < 400000) :
    Calls Try.prog 20 #[.pointer (some ⟨d, 0, none⟩), plV p] w fun e w' => e = .returned (plTo (getL p.key L)) ∧ DirTo w d own (kputL p L) w' := by
  have h0 := h
  obtain ⟨⟨R, G, S, vs, cs, hM, hK⟩, hkeys⟩ := h
  have hall := fun w' (hm : DirMem w' d own R G S vs cs) => put_in p hk w' hm hK hkeys hn
  have hrow := row_any p.key hk (d := d)
  obtain ⟨p0, p1, p2, p3, p4⟩ := p
  dsimp only at hk hall hrow ⊢
  obtain ⟨x, hx⟩ : ∃ x, getL p2 L = x := ⟨_, rfl⟩
  rw [hx] at hall ⊢
  obtain ⟨y, hy⟩ : ∃ y, x.getD Pl.zero = y := ⟨_, rfl⟩
  obtain ⟨z, hz⟩ : ∃ z, x.isSome = z := ⟨_, rfl⟩
  have hpl : plTo x = .tuple #[plV y, .bool z] := by unfold plTo; rw [hy, hz]
  rw [hpl] at hall ⊢
  obtain ⟨y0, y1, y2, y3, y4⟩ := y
  unfold plV at hpl hall ⊢
  dsimp only at hpl hall ⊢
  have hg0 := grows_alloc w (.cells #[.int .i64 p0, .int .i64 p1, .string ⟨p2.toArray⟩, .int .i64 p3, .int .i64 p4] 32)
  have hm0 := Whole.made w 32 #[.int .i64 p0, .int .i64 p1, .string ⟨p2.toArray⟩, .int .i64 p3, .int .i64 p4]
  obtain ⟨W0, hW0⟩ : ∃ W0, w.alloc (.cells #[.int .i64 p0, .int .i64 p1, .string ⟨p2.toArray⟩, .int .i64 p3, .int .i64 p4] 32) = W0 := ⟨_, rfl⟩
  rw [hW0] at hg0 hm0
  have hs0 : W0.heap.size = w.heap.size + 1 := by rw [← hW0, World.size_alloc]
  have hg1 := grows_alloc W0 (.cells #[.int .i64 0, .int .i64 0, .string ⟨#[]⟩, .int .i64 0, .int .i64 0] 32)
  have hm1 := Whole.made W0 32 #[.int .i64 0, .int .i64 0, .string ⟨#[]⟩, .int .i64 0, .int .i64 0]
  obtain ⟨W1, hW1⟩ : ∃ W1, W0.alloc (.cells #[.int .i64 0, .int .i64 0, .string ⟨#[]⟩, .int .i64 0, .int .i64 0] 32) = W1 := ⟨_, rfl⟩
  rw [hW1] at hg1 hm1
  have hs1 : W1.heap.size = W0.heap.size + 1 := by rw [← hW1, World.size_alloc]
  have hm01 := hg1.whole hm0
  obtain ⟨pb, hpb⟩ : ∃ pb, w.heap.size = pb := ⟨_, rfl⟩
  rw [hpb] at hm0 hm01
  obtain ⟨kb, hkb⟩ : ∃ kb, W0.heap.size = kb := ⟨_, rfl⟩
  rw [hkb] at hm1
  have HSZ := Lib.hid (show w.heap.size = pb ∧ W0.heap.size = kb ∧ kb = pb + 1 ∧ W1.heap.size = kb + 1 from by omega)
  have HM := Lib.hid (hM.grow (Grows.trans hg0 hg1))
  have H0 := Lib.hid (And.intro h0 (And.intro (Grows.trans hg0 hg1) hm1))
  have hlt := h0.lt
  have hno : ∀ k, own k → k < w.heap.size := hlt.2
  have HRD := Lib.hid (show ∀ w', Spares (fun k => own k ∨ k = d) W1 w' → w'.cell? ⟨pb, 0, none⟩ = some (.int .i64 p0) ∧ w'.cell? ⟨pb, 1, none⟩ = some (.int .i64 p1) ∧ w'.cell? ⟨pb, 2, none⟩ = some (.string ⟨p2.toArray⟩) ∧ w'.cell? ⟨pb, 3, none⟩ = some (.int .i64 p3) ∧ w'.cell? ⟨pb, 4, none⟩ = some (.int .i64 p4) from fun w' hs => by
    have hp' : Whole w' pb 32 #[.int .i64 p0, .int .i64 p1, .string ⟨p2.toArray⟩, .int .i64 p3, .int .i64 p4] := (hs.same pb hm01.lt fun e => e.elim (fun e => by have := hno pb e; omega) fun e => by omega).trans hm01
    refine ⟨?_, ?_, ?_, ?_, ?_⟩ <;> (rw [hp'.cell]; rfl))
  obtain ⟨o, ho⟩ : ∃ o, rowOf p2 * 2 = o := ⟨_, rfl⟩
  rw [ho] at hrow hall
  have HROW := Lib.hid hrow
  have HPUT := Lib.hid hall
  clear h0 hM hK hkeys hall hrow hg0 hm0 hg1 hm1 hs0 hs1 hm01 hlt hno hx hy hz hpl ho
  go_enter Try.func20, Try.ntmps20
  go_wp2_with (first | rw [hW0] | rw [hW1] | fail)
  clear hW0 hW1
  refine wp_region_jobs (G := Grows) (E := Spares (fun k => own k ∨ k = d)) 9 [valJob (fun k => own k ∨ k = d) (.pointer (some ⟨d, 0, none⟩)), valJob (fun k => own k ∨ k = d) (.pointer (some ⟨pb, 1, none⟩)), valJob (fun k => own k ∨ k = d) (.pointer (some ⟨pb, 2, none⟩)), valJob (fun k => own k ∨ k = d) (.string ⟨p2.toArray⟩), valJob (fun k => own k ∨ k = d) (.pointer (some ⟨d, o, none⟩)), valJob (fun k => own k ∨ k = d) (.agg #[.int .i64 p0, .int .i64 p1, .string ⟨p2.toArray⟩, .int .i64 p3, .int .i64 p4]), wrJob (fun k => own k ∨ k = d) (.tuple #[.agg #[.int .i64 y0, .int .i64 y1, .string ⟨y2.toArray⟩, .int .i64 y3, .int .i64 y4], .bool z]) (fun w' => DirTo W1 d own (kputL ⟨p0, p1, p2, p3, p4⟩ L) w') (fun _ _ h g => h.grows g), valJob (fun k => own k ∨ k = d) (.agg #[.int .i64 y0, .int .i64 y1, .string ⟨y2.toArray⟩, .int .i64 y3, .int .i64 y4]), valJob (fun k => own k ∨ k = d) (.bool z)] [(false, false), (false, false), (false, false), (false, false), (false, false), (false, false), (true, true), (false, false), (false, false)] (fun w' => DirMem w' d own R G S vs cs) rfl mixed (by kernel_rfl) (fun _ _ => Spares.grows) (fun _ _ _ => Spares.trans) (spares_drew _ _) (HM.out.same (Nat.le_refl _) rfl (fun _ _ => rfl)) (fun _ _ h g => h.grow g) ?_
  simp only [List.take_succ_cons, List.take_zero, List.drop_succ_cons, List.drop_zero]
  refine j_val (.pointer (some ⟨d, 0, none⟩)) (by rfl) ?_ ?_
  · intro w' hC; clear hC; go_simp
  simp only [Act.put, List.setIfInBounds_toArray, List.set_cons_zero, List.set_cons_succ]
  refine j_val (.pointer (some ⟨pb, 1, none⟩)) (by rfl) ?_ ?_
  · intro w' hC; clear hC; go_simp
  simp only [Act.put, List.setIfInBounds_toArray, List.set_cons_zero, List.set_cons_succ]
  refine j_val (.pointer (some ⟨pb, 2, none⟩)) (by rfl) ?_ ?_
  · intro w' hC; clear hC; go_simp
  simp only [Act.put, List.setIfInBounds_toArray, List.set_cons_zero, List.set_cons_succ]
  refine j_val (.string ⟨p2.toArray⟩) (by rfl) ?_ ?_
  · intro w' hC; obtain ⟨q0, q1, q2, q3, q4⟩ := HRD.out w' hC; clear hC; go_simp
  simp only [Act.put, List.setIfInBounds_toArray, List.set_cons_zero, List.set_cons_succ]
  refine j_call 28 #[.pointer (some ⟨d, 0, none⟩), .string ⟨p2.toArray⟩] (.pointer (some ⟨d, o, none⟩)) (by rfl) (by intro w' hC; clear hC; go_simp) ?_ ?_
  · intro w' hC hk; exact HROW.out w'
  simp only [Act.put, List.setIfInBounds_toArray, List.set_cons_zero, List.set_cons_succ]
  refine j_val (.agg #[.int .i64 p0, .int .i64 p1, .string ⟨p2.toArray⟩, .int .i64 p3, .int .i64 p4]) (by rfl) ?_ ?_
  · intro w' hC; obtain ⟨q0, q1, q2, q3, q4⟩ := HRD.out w' hC; clear hC; go_simp
  simp only [Act.put, List.setIfInBounds_toArray, List.set_cons_zero, List.set_cons_succ]
  refine j_write 35 #[.pointer (some ⟨d, o, none⟩), .agg #[.int .i64 p0, .int .i64 p1, .string ⟨p2.toArray⟩, .int .i64 p3, .int .i64 p4]] (.tuple #[.agg #[.int .i64 y0, .int .i64 y1, .string ⟨y2.toArray⟩, .int .i64 y3, .int .i64 y4], .bool z]) (by rfl) (by intro w' hC; clear hC; go_simp) ?_ ?_
  · intro w' hC hcls; exact (HPUT.out w' hcls).mono fun e w'' ⟨he, h1⟩ => by
      obtain ⟨own', a1, a2, a3⟩ := h1
      exact ⟨he, a3, own', a1, fun k hk => (a2 k hk).imp_right fun e => Nat.le_trans hC.size e, hC.trans a3⟩
  simp only [Act.put, List.setIfInBounds_toArray, List.set_cons_zero, List.set_cons_succ]
  refine j_val (.agg #[.int .i64 y0, .int .i64 y1, .string ⟨y2.toArray⟩, .int .i64 y3, .int .i64 y4]) (by rfl) ?_ ?_
  · intro w' hC; clear hC; go_simp
  simp only [Act.put, List.setIfInBounds_toArray, List.set_cons_zero, List.set_cons_succ]
  refine j_val (.bool z) (by rfl) ?_ ?_
  · intro w' hC; clear hC; go_simp
  simp only [Act.put, List.setIfInBounds_toArray, List.set_cons_zero, List.set_cons_succ]
  refine wpJ_end ?_
  intro w5 hC hks hcls
  have HCw5 := Lib.hid hC
  have HLw5 := Lib.hid hcls
  clear hC hks hcls
  have hkk : Whole w5 kb 32 #[.int .i64 0, .int .i64 0, .string ⟨#[]⟩, .int .i64 0, .int .i64 0] := (DirTo.kept H0.out.1 H0.out.2.1 HLw5.out (by have := HSZ.out; omega) (by have := HSZ.out; omega)).trans H0.out.2.2
  have HKK := Lib.hid hkk
  clear hkk
  go_wp2_with (first
    | (refine wpList_store_row rfl 32 _ _ rfl kb #[.int .i64 y0, .int .i64 y1, .string ⟨y2.toArray⟩, .int .i64 y3, .int .i64 y4] rfl rfl 32 _ HKK.out sizePl rfl (plV_one _ _ _ _ _) ?_)
    | fail)
  refine bodyPost_ret (results_pl2 rfl _ _ kb 32 (.int .i64 y0) (.int .i64 y1) (.string ⟨y2.toArray⟩) (.int .i64 y3) (.int .i64 y4) (.bool z) rfl rfl (HKK.out.rowed _)) rfl ?_
  exact ⟨rfl, DirTo.row H0.out.1 _ H0.out.2.1 HLw5.out (by have := HSZ.out; omega) (by have := HSZ.out; omega) _⟩
set_option maxHeartbeats 1000000 in
set_option maxRecDepth 100000 in
theorem kdel_any {d : Nat} {own : Nat → Prop} {L : List Pl} (key : List UInt8) (hk : key.length ≤ 1000000000) (w : World) (h : DirIn w d own L) (hn : L.length < 400000) :
    Calls Try.prog 13 #[.pointer (some ⟨d, 0, none⟩), .string ⟨key.toArray⟩] w fun e w' => e = .returned (plTo (getL key L)) ∧ DirTo w d own (delL key L) w' := by
  have h0 := h
  obtain ⟨⟨R, G, S, vs, cs, hM, hK⟩, hkeys⟩ := h
  have hall := fun w' (hm : DirMem w' d own R G S vs cs) => del_in key hk w' hm hK hkeys hn
  have hrow := row_any key hk (d := d)
  obtain ⟨x, hx⟩ : ∃ x, getL key L = x := ⟨_, rfl⟩
  rw [hx] at hall ⊢
  obtain ⟨y, hy⟩ : ∃ y, x.getD Pl.zero = y := ⟨_, rfl⟩
  obtain ⟨z, hz⟩ : ∃ z, x.isSome = z := ⟨_, rfl⟩
  have hpl : plTo x = .tuple #[plV y, .bool z] := by unfold plTo; rw [hy, hz]
  rw [hpl] at hall ⊢
  obtain ⟨y0, y1, y2, y3, y4⟩ := y
  unfold plV at hpl hall ⊢
  dsimp only at hpl hall ⊢
  have hg1 := grows_alloc w (.cells #[.int .i64 0, .int .i64 0, .string ⟨#[]⟩, .int .i64 0, .int .i64 0] 32)
  have hm1 := Whole.made w 32 #[.int .i64 0, .int .i64 0, .string ⟨#[]⟩, .int .i64 0, .int .i64 0]
  obtain ⟨W1, hW1⟩ : ∃ W1, w.alloc (.cells #[.int .i64 0, .int .i64 0, .string ⟨#[]⟩, .int .i64 0, .int .i64 0] 32) = W1 := ⟨_, rfl⟩
  rw [hW1] at hg1 hm1
  have hs1 : W1.heap.size = w.heap.size + 1 := by rw [← hW1, World.size_alloc]
  obtain ⟨kb, hkb⟩ : ∃ kb, w.heap.size = kb := ⟨_, rfl⟩
  rw [hkb] at hm1
  have HSZ := Lib.hid (show w.heap.size = kb ∧ W1.heap.size = kb + 1 from by omega)
  have HM := Lib.hid (hM.grow hg1)
  have H0 := Lib.hid (And.intro h0 (And.intro hg1 hm1))
  obtain ⟨o, ho⟩ : ∃ o, rowOf key * 2 = o := ⟨_, rfl⟩
  rw [ho] at hrow hall
  have HROW := Lib.hid hrow
  have HDEL := Lib.hid hall
  clear h0 hM hK hkeys hall hrow hg1 hm1 hs1 hx hy hz hpl ho
  go_enter Try.func13, Try.ntmps13
  go_wp2_with (first | rw [hW1] | fail)
  clear hW1
  refine (HROW.out W1).mono ?_
  rintro e w2 ⟨rfl, hg2⟩
  have HC := Lib.hid (HDEL.out w2 (HM.out.grow hg2))
  have HG2 := Lib.hid (And.intro (Grows.trans H0.out.2.1 hg2) (And.intro (hg2.whole H0.out.2.2) hg2.size))
  clear hg2
  go_wp2_with (fail)
  refine HC.out.mono ?_
  rintro e w5 ⟨rfl, hto⟩
  have hkk : Whole w5 kb 32 #[.int .i64 0, .int .i64 0, .string ⟨#[]⟩, .int .i64 0, .int .i64 0] := (DirTo.kept H0.out.1 HG2.out.1 hto (by have := HSZ.out; omega) HG2.out.2.1.lt).trans HG2.out.2.1
  have HKK := Lib.hid (And.intro hkk hto)
  clear hkk hto
  go_wp2_with (first
    | (refine wpList_store_row rfl 32 _ _ rfl kb #[.int .i64 y0, .int .i64 y1, .string ⟨y2.toArray⟩, .int .i64 y3, .int .i64 y4] rfl rfl 32 _ HKK.out.1 sizePl rfl (plV_one _ _ _ _ _) ?_)
    | fail)
  refine bodyPost_ret (results_pl2 rfl _ _ kb 32 (.int .i64 y0) (.int .i64 y1) (.string ⟨y2.toArray⟩) (.int .i64 y3) (.int .i64 y4) (.bool z) rfl rfl (HKK.out.1.rowed _)) rfl ?_
  exact ⟨rfl, DirTo.row H0.out.1 _ HG2.out.1 HKK.out.2 (by have := HSZ.out; omega) HG2.out.2.1.lt _⟩
end Go.Proofs.Ytadgbobemmfjoaa
