/-
  Write of the document's answer to package cut.
-/
import Derived.Test.YtlcpbkbojjpfaaaCutRef
import Derived.Test.YtlcpbkbojjpfaaaCut
namespace Go.Proofs.Ytlcpbkbojjpfaaa
open Go.RowKit
set_option linter.unusedVariables false
set_option linter.unusedSimpArgs false

theorem infoRowR : (Try.prog.info? 23).map (fun i => (i.zero, i.size, i.bytes)) = some (some (.slice none 0 0), 1, 24) := by kernel_rfl
theorem NewRow.grow {w w' : World} {g c : Nat} {L : List UInt8} (h : NewRow w g c L) (hg : Grows w w') : NewRow w' g c L := by
  obtain ⟨cs, fr, h1, h2⟩ := h
  exact ⟨cs, fr, (hg.block _ (Array.getElem?_eq_some_iff.1 h1).1).trans h1, h2.grow hg⟩
theorem NewRow.lt {w : World} {g c : Nat} {L : List UInt8} (h : NewRow w g c L) : g < w.heap.size := by
  obtain ⟨cs, fr, h1, h2⟩ := h
  exact (Array.getElem?_eq_some_iff.1 h1).1
theorem NewRow.same {w w' : World} {g c : Nat} {L : List UInt8} (h : NewRow w g c L) (hsz : w.heap.size ≤ w'.heap.size) (hk : w'.heap[g]? = w.heap[g]?) : NewRow w' g c L := by
  obtain ⟨cs, fr, h1, h2⟩ := h
  refine ⟨cs, fr, hk.trans h1, ⟨Row.len h2.bytes, fun k v hv => ?_⟩, h2.cap, h2.bare⟩
  obtain ⟨ad, e, hb, hc⟩ := Row.spot h2.bytes k v hv
  injection e with e
  subst e
  exact ⟨_, rfl, Nat.lt_of_lt_of_le hb hsz, (World.cell?_of_block (by rw [add_block]; exact hk)).trans hc⟩
theorem NewRow.not {w : World} {g c k t : Nat} {L : List UInt8} {cs : Array Value} {fr : Nat × Nat} (h : NewRow w g c L) (hk : w.heap[k]? = some (.cells cs t fr)) (ht : t ≠ 5) : g ≠ k := by
  rintro rfl
  obtain ⟨cs', fr', h1, _⟩ := h
  rw [h1] at hk
  injection hk with hk
  injection hk with _ e _
  exact ht e.symm

/-- A string's bytes in new memory; a literal slice of one such. -/
def rowFact (bs : List UInt8) : Fact Grows := ⟨Nat × Nat, (0, 0), fun p => .slice (some ⟨p.1, 0, none⟩) bs.length p.2, fun p w => NewRow w p.1 p.2 bs, fun _ _ _ h g => h.grow g⟩
def boxFact (bs : List UInt8) : Fact Grows := ⟨Nat × Nat × Nat, (0, 0, 0), fun p => .slice (some ⟨p.1, 0, none⟩) 1 1, fun p w => Whole w p.1 23 #[.slice (some ⟨p.2.1, 0, none⟩) bs.length p.2.2] ∧ NewRow w p.2.1 p.2.2 bs, fun _ _ _ h g => ⟨g.whole h.1, h.2.grow g⟩⟩
section
variable {ops : Array Oper} {W : World} {Q : Act → World → Prop} {o : Oper} {rest : List Oper} {fs : List (Fact Grows)} {ks : Known} {a : Act}
theorem f_bytes (bs : List UInt8) (x : Operand) (hw : Region.wanted o (yielded ops a.tmps) = true) (ho : o.op = .convert 9 23 x) (hx : a.eval x = .string ⟨bs.toArray⟩)
    (h2 : ∀ g c, wpF Try.prog ops Grows W Q rest fs ((o.dst, fun w => NewRow w g c bs) :: ks) (a.put o.dst (.slice (some ⟨g, 0, none⟩) bs.length c))) : wpF Try.prog ops Grows W Q (o :: rest) (rowFact bs :: fs) ks a := by
  unfold wpF fStep
  rw [if_pos hw]
  refine ⟨fun w hW hk => ?_, fun p => h2 p.1 p.2⟩
  obtain ⟨c, w', hrun, hrow, hg⟩ := run_bytes w bs
  unfold gives
  rw [show (execOp a.eval o).run Try.prog w = .ok (.value (.slice (some ⟨w.heap.size, 0, none⟩) bs.length c)) w' by
    unfold execOp
    simp only [ho, hx, Sem.run_bind, Sem.run_pure, hrun, Result.andThen_ok]]
  exact ⟨hg, (w.heap.size, c), rfl, hrow⟩
theorem f_boxed (bs : List UInt8) (g c : Nat) (hw : Region.wanted o (yielded ops a.tmps) = true) (h1 : ∀ w, Grows W w → (execOp a.eval o).run Try.prog w = .ok (.value (.slice (some ⟨w.heap.size, 0, none⟩) 1 1)) (w.alloc (.cells #[.slice (some ⟨g, 0, none⟩) bs.length c] 23)))
    (hr : ∀ w, ks.for (o.looksAt ops) w → NewRow w g c bs) (h2 : ∀ gb g c, wpF Try.prog ops Grows W Q rest fs ((o.dst, fun w => Whole w gb 23 #[.slice (some ⟨g, 0, none⟩) bs.length c] ∧ NewRow w g c bs) :: ks) (a.put o.dst (.slice (some ⟨gb, 0, none⟩) 1 1))) :
    wpF Try.prog ops Grows W Q (o :: rest) (boxFact bs :: fs) ks a := by
  unfold wpF fStep
  rw [if_pos hw]
  refine ⟨fun w hW hk => ?_, fun p => h2 p.1 p.2.1 p.2.2⟩
  unfold gives
  rw [h1 w hW]
  exact ⟨grows_alloc _ _, (w.heap.size, g, c), rfl, Whole.made _ _ _, (hr w hk).grow (grows_alloc _ _)⟩
end

/-- The pieces that the answer has made. -/
structure RefRows (w : World) (B : Nat) (LA : Option Addr) (j lc : Nat) (ls : List (List UInt8)) : Prop where
  count : ls.length = j
  rows : ∃ hs : List (Option Addr × Nat × Nat), w.ownsRow B 23 1 (.slice LA j lc) j (hs.map slV) ∧ ∀ (i : Nat) (h : Option Addr × Nat × Nat) (l : List UInt8), hs[i]? = some h → ls[i]? = some l → ∃ g c, h = (some ⟨g, 0, none⟩, l.length, c) ∧ NewRow w g c l
theorem RefRows.lists {w : World} {B : Nat} {LA : Option Addr} {j lc : Nat} {ls : List (List UInt8)} (h : RefRows w B LA j lc ls) : Lists w LA j lc ls := by
  obtain ⟨h1, hs, h2, h3⟩ := h
  have hb : LA = none → lc = 0 := by obtain ⟨A', c', e, hb⟩ := slice_of_owned h2; injection e with e1 _ e3; subst e1 e3; exact hb
  refine ⟨h1, ?_, hb, hs, Row.owned h2, fun i x l hx hl => ?_⟩
  · rcases h2.2 with ⟨e1, e2⟩ | ⟨g, cap, cur, e1, _, _, e2, _⟩
    · omega
    · injection e1 with _ _ e1; omega
  · obtain ⟨g, c, rfl, _, _, _, hr⟩ := h3 i x l hx hl
    exact hr
/-- Stores in blocks of other types, and an append to the list itself, leave the pieces. -/
theorem RefRows.set {w : World} {B g i : Nat} {LA : Option Addr} {j lc t : Nat} {ls : List (List UInt8)} {cs : Array Value} (h : RefRows w B LA j lc ls) (hg : Whole w g t cs) (ht : t ≠ 5 ∧ t ≠ 23) (u : Value) : RefRows (w.setCell ⟨g, i, none⟩ u) B LA j lc ls := by
  obtain ⟨h1, hs, h2, h3⟩ := h
  have hb : ∀ k, k ≠ g → (w.setCell ⟨g, i, none⟩ u).heap[k]? = w.heap[k]? := fun k hk => Below.heap_setCell _ _ _ k hk
  have hsz : (w.setCell ⟨g, i, none⟩ u).heap.size = w.heap.size := by simp [World.setCell]
  refine ⟨h1, hs, ?_, fun i x l hx hl => ?_⟩
  · obtain ⟨q1, q2⟩ := h2
    refine ⟨q1, ?_⟩
    rcases q2 with q2 | ⟨g', cap, cur, e1, e2, e3, r⟩
    · exact .inl q2
    · refine .inr ⟨g', cap, cur, e1, e2, (hb g' ?_).trans e3, r⟩
      rintro rfl
      unfold Whole at hg
      rw [e3] at hg
      injection hg with hg
      injection hg with _ e _
      exact ht.2 e.symm
  · obtain ⟨g', c, e, hr⟩ := h3 i x l hx hl
    exact ⟨g', c, e, hr.same (by omega) (hb _ (hr.not hg ht.1))⟩
theorem RefRows.grow {w w' : World} {B : Nat} {LA : Option Addr} {j lc : Nat} {ls : List (List UInt8)} (h : RefRows w B LA j lc ls) (hg : Grows w w') : RefRows w' B LA j lc ls := by
  obtain ⟨h1, hs, h2, h3⟩ := h
  refine ⟨h1, hs, owned_grow h2 hg, fun i x l hx hl => ?_⟩
  obtain ⟨g', c, e, hr⟩ := h3 i x l hx hl
  exact ⟨g', c, e, hr.grow hg⟩
theorem RefRows.more {w w' : World} {B g c : Nat} {LA LA' : Option Addr} {j lc lc' : Nat} {ls : List (List UInt8)} {l : List UInt8} {hs : List (Option Addr × Nat × Nat)} (h1 : ls.length = j) (h2 : w.ownsRow B 23 1 (.slice LA j lc) j (hs.map slV))
    (h3 : ∀ (i : Nat) (h : Option Addr × Nat × Nat) (l : List UInt8), hs[i]? = some h → ls[i]? = some l → ∃ g c, h = (some ⟨g, 0, none⟩, l.length, c) ∧ NewRow w g c l) (hn : NewRow w g c l)
    (hown : w'.ownsRow B 23 1 (.slice LA' (j + 1) lc') (j + 1) (hs.map slV ++ [.slice (some ⟨g, 0, none⟩) l.length c])) (hg : w.grownBy w' (Value.slice LA j lc).ownBlock) : RefRows w' B LA' (j + 1) lc' (ls ++ [l]) := by
  have hk : ∀ k b l, NewRow w k b l → NewRow w' k b l := fun k b l hr => hr.same hg.size (hg.block k hr.lt fun e => by
    rcases h2.2 with ⟨e1, _⟩ | ⟨g', cap, cur, e1, _, e3, _⟩
    · rw [e1] at e; simp [Value.ownBlock] at e
    · rw [e1] at e
      have : k = g' := by simpa [Value.ownBlock] using e
      exact hr.not e3 (by decide) this)
  have hl : hs.length = j := by have := h2.1; simpa using this
  refine ⟨by simp [h1], hs ++ [(some ⟨g, 0, none⟩, l.length, c)], by rw [List.map_append]; exact hown, fun i x y hx hy => ?_⟩
  by_cases hi : i < j
  · rw [List.getElem?_append_left (by omega)] at hx hy
    obtain ⟨g', c', e, hr⟩ := h3 i x y hx hy
    exact ⟨g', c', e, hk _ _ _ hr⟩
  · rw [List.getElem?_append_right (by omega)] at hx hy
    have hi0 : i - hs.length = 0 := by
      rcases Nat.eq_zero_or_pos (i - hs.length) with h0 | h0
      · exact h0
      · rw [List.getElem?_eq_none (by simp; omega)] at hx; cases hx
    rw [show ls.length = hs.length by omega] at hy
    rw [hi0] at hx hy
    simp only [List.getElem?_cons_zero, Option.some.injEq] at hx hy
    subst hx hy
    exact ⟨g, c, rfl, hk _ _ _ hn⟩

theorem one_row {w : World} {g t : Nat} {u : Value} (h : Whole w g t #[u]) : Row w w.heap.size (some ⟨g, 0, none⟩) 1 [u] :=
  ⟨rfl, fun k v hv => ⟨⟨g, 0, none⟩, rfl, h.lt, by
    rw [show (⟨g, 0, none⟩ : Addr).add k = ⟨g, k, none⟩ by unfold Addr.add; split <;> simp_all, h.cell k]
    simpa using hv⟩⟩
theorem Spares.trans2 {own : Nat → Prop} {w W W' : World} {v : Value} (h : Spares own w W) (hg : W.grownBy W' v.ownBlock) (hv : ∀ k, v.ownBlock = some k → w.heap.size ≤ k) : Spares own w W' :=
  ⟨hg.os.trans h.os, hg.tape.trans h.tape, hg.output.trans h.output, Nat.le_trans h.size hg.size, fun k hk ho => (hg.block k (Nat.lt_of_lt_of_le hk h.size) fun e => by have := hv k e.symm; omega).trans (h.same k hk ho)⟩
def lenOf : Value → Nat | .slice _ n _ => n | _ => 0
theorem extract_take (D : List UInt8) (P : Nat) (h : P ≤ D.length) : (⟨D.toArray⟩ : ByteArray).extract 0 P = ⟨(D.take P).toArray⟩ := by
  apply ByteArray.ext
  simp [ByteArray.data_extract]
theorem extract_drop (D : List UInt8) (P : Nat) : (⟨D.toArray⟩ : ByteArray).extract P D.length = ⟨(D.drop P).toArray⟩ := by
  apply ByteArray.ext
  simp [ByteArray.data_extract]
  exact List.take_of_length_le (by simp)

set_option maxRecDepth 100000 in
set_option maxHeartbeats 4000000 in
theorem write_ref (g P Z : Nat) (L : List UInt8) (A : Option Addr) (n c : Nat) (bs : List UInt8) (w : World) (h : RefHas w g P Z L) (hs : Sl w A n c bs) (hP : 0 < P ∧ P ≤ 4096) (hn : n ≤ 1000000) (hL : L.length ≤ 1000000) (hZ : Z ≤ 1000000000) :
    Calls Try.prog 36 #[.pointer (some ⟨g, 0, none⟩), .slice A n c] w fun e w' => ∃ A' c', e = .returned (.slice A' (piecesB P (L ++ bs)).length c') ∧ RefRows w' w.heap.size A' (piecesB P (L ++ bs)).length c' (piecesB P (L ++ bs)) ∧
      RefHas w' g P (Z + n) (restB P (L ++ bs)) ∧ Spares (fun k => k = g) w w' := by
  have c1 := Whole.cell h 1
  have f1 := Whole.free h 1
  simp only [List.getElem?_toArray, List.getElem?_cons_zero, List.getElem?_cons_succ] at c1
  have KW : Hid (IntKind.i64.wrap ((Z : Int) + (n : Int)) = (Z : Int) + (n : Int)) := Lib.hid (IntWalk.i64_in _ (by omega))
  have KW2 : Hid (wrap64 ((Z : Int) + (n : Int)) = (Z : Int) + (n : Int)) := Lib.hid (IntWalk.wrap64_in _ (by omega))
  have kw := KW.out
  have kw2 := KW2.out
  obtain ⟨w1, hw1⟩ : ∃ w1, w.setCell ⟨g, 1, none⟩ (.int .i64 ((Z : Int) + (n : Int))) = w1 := ⟨_, rfl⟩
  have h1 : RefHas w1 g P (Z + n) L := by
    rw [← hw1]
    have := Whole.put h 1 (.int .i64 ((Z : Int) + (n : Int)))
    unfold RefHas
    rw [Int.natCast_add]
    exact this
  have hs1 : Sl w1 A n c bs := hw1 ▸ hs.put' c1 (fun b h => by cases h) _
  have low1 : Spares (fun k => k = g) w w1 := hw1 ▸ (Spares.refl (fun k => k = g) w).setCell (p := ⟨g, 1, none⟩) rfl _
  have hgw : g < w.heap.size := Whole.lt h
  have hlt := hs.len
  have HX := Lib.hid hw1
  have HS := Lib.hid hs1
  have H1 := Lib.hid (And.intro h1 (And.intro low1 hgw))
  have HC : Hid (∀ w', Grows w1 w' → w'.cell? ⟨g, 0, none⟩ = some (.int .i64 (P : Nat)) ∧ w'.cell? ⟨g, 2, none⟩ = some (.string ⟨L.toArray⟩)) := Lib.hid fun w' hw => by
    have h := h1.grow hw
    have c0 := Whole.cell h 0
    have c2 := Whole.cell h 2
    simp only [List.getElem?_toArray, List.getElem?_cons_zero, List.getElem?_cons_succ] at c0 c2
    exact ⟨c0, c2⟩
  obtain ⟨i0, hi0, hz0, hz1, hz2⟩ := info_parts infoRowR
  have HI := Lib.hid (And.intro hi0 (And.intro hz0 (And.intro hz1 hz2)))
  clear h hs hs1 h1 low1 hgw hw1 hi0 hz0 hz1 hz2
  go_enter Try.func36, Try.ntmps36
  go_wp2_with (first | rw [HX.out] | fail)
  refine wp_region_facts_tail (E := Grows) 10 [valFact (.pointer (some ⟨g, 0, none⟩)), valFact (.pointer (some ⟨g, 0, none⟩)), valFact (.pointer (some ⟨g, 0, none⟩)), valFact (.pointer (some ⟨g, 2, none⟩)), valFact (.string ⟨L.toArray⟩), valFact (.slice A n c), valFact (.string ⟨bs.toArray⟩), valFact (.string ⟨(L ++ bs).toArray⟩), valFact (.pointer (some ⟨g, 0, none⟩)), valFact (.pointer (some ⟨g, 2, none⟩))] mixed (by kernel_rfl) (fun _ _ _ => Grows.trans) (grows_drew _) ?_
  simp only [List.take_succ_cons, List.take_zero, List.drop_succ_cons, List.drop_zero]
  refine f_val (.pointer (some ⟨g, 0, none⟩)) (by rfl) ?_ ?_
  · intro w' hC; clear hC; go_simp
  simp only [Act.put, List.setIfInBounds_toArray, List.set_cons_zero, List.set_cons_succ]
  refine f_val (.pointer (some ⟨g, 0, none⟩)) (by rfl) ?_ ?_
  · intro w' hC; clear hC; go_simp
  simp only [Act.put, List.setIfInBounds_toArray, List.set_cons_zero, List.set_cons_succ]
  refine f_val (.pointer (some ⟨g, 0, none⟩)) (by rfl) ?_ ?_
  · intro w' hC; clear hC; go_simp
  simp only [Act.put, List.setIfInBounds_toArray, List.set_cons_zero, List.set_cons_succ]
  refine f_val (.pointer (some ⟨g, 2, none⟩)) (by rfl) ?_ ?_
  · intro w' hC; clear hC; go_simp
  simp only [Act.put, List.setIfInBounds_toArray, List.set_cons_zero, List.set_cons_succ]
  refine f_val (.string ⟨L.toArray⟩) (by rfl) ?_ ?_
  · intro w' hC; obtain ⟨c0, c2⟩ := HC.out w' hC; clear hC; go_simp
  simp only [Act.put, List.setIfInBounds_toArray, List.set_cons_zero, List.set_cons_succ]
  refine f_val (.slice A n c) (by rfl) ?_ ?_
  · intro w' hC; clear hC; go_simp
  simp only [Act.put, List.setIfInBounds_toArray, List.set_cons_zero, List.set_cons_succ]
  refine f_val (.string ⟨bs.toArray⟩) (by rfl) ?_ ?_
  · intro w' hC; have hs := run_string (HS.out.grow hC); clear hC; go_simp
  simp only [Act.put, List.setIfInBounds_toArray, List.set_cons_zero, List.set_cons_succ]
  refine f_val (.string ⟨(L ++ bs).toArray⟩) (by rfl) ?_ ?_
  · intro w' hC; clear hC; (go_simp; rw [if_neg (by omega), bytes_add])
  simp only [Act.put, List.setIfInBounds_toArray, List.set_cons_zero, List.set_cons_succ]
  refine f_val (.pointer (some ⟨g, 0, none⟩)) (by rfl) ?_ ?_
  · intro w' hC; clear hC; go_simp
  simp only [Act.put, List.setIfInBounds_toArray, List.set_cons_zero, List.set_cons_succ]
  refine f_val (.pointer (some ⟨g, 2, none⟩)) (by rfl) ?_ ?_
  · intro w' hC; clear hC; go_simp
  simp only [Act.put, List.setIfInBounds_toArray, List.set_cons_zero, List.set_cons_succ]
  refine wpF_end ?_
  intro w2 hC hks
  have HCw2 := Lib.hid hC
  clear hC hks
  have h2 := H1.out.1.grow HCw2.out
  have d2 := Whole.cell h2 2
  have f2 := Whole.free h2 2
  simp only [List.getElem?_toArray, List.getElem?_cons_zero, List.getElem?_cons_succ] at d2
  obtain ⟨w3, hw3⟩ : ∃ w3, w2.setCell ⟨g, 2, none⟩ (.string ⟨(L ++ bs).toArray⟩) = w3 := ⟨_, rfl⟩
  have h3 : RefHas w3 g P (Z + n) (L ++ bs) := hw3 ▸ Whole.put h2 2 _
  have low3 : Spares (fun k => k = g) w w3 := hw3 ▸ (H1.out.2.1.trans (Spares.grows HCw2.out)).setCell (p := ⟨g, 2, none⟩) rfl _
  have HX3 := Lib.hid hw3
  have H3 := Lib.hid (And.intro h3 low3)
  have hgw := H1.out.2.2
  have HGW := Lib.hid hgw
  clear h2 hw3 h3 low3 HC H1 hgw c1 f1
  go_wp2_with (first | rw [HX3.out] | fail)
  clear d2 f2
  have hTL : (L ++ bs).length ≤ 2000000 := by rw [List.length_append]; omega
  generalize hT : L ++ bs = T at *
  have HT := Lib.hid hT
  clear hT
  go_loopw [5] (fun o wr => ∃ (j : Nat) (LA : Option Addr) (lc : Nat), j * P ≤ T.length ∧ o = .slice LA j lc ∧ Hid (RefRows wr w.heap.size LA j lc (piecesN P T j)) ∧ Hid (RefHas wr g P (Z + n) (T.drop (j * P))) ∧ Hid (Spares (fun k => k = g) w wr)) (fun o _ => T.length - lenOf o)
  case atStart => exact ⟨0, none, 0, by omega, rfl, Lib.hid ⟨rfl, [], World.ownsRow_nil _ _ _ _, fun i h l hh => by simp at hh⟩, Lib.hid (by rw [Nat.zero_mul, List.drop_zero]; exact H3.out.1), Lib.hid H3.out.2⟩
  case round =>
    obtain ⟨j, LA, lc, hj, rfl, HR, HH, HL⟩ := hrel
    obtain ⟨D, hD⟩ : ∃ D, T.drop (j * P) = D := ⟨_, rfl⟩
    rw [hD] at HH
    have HDL := Lib.hid (show D.length = T.length - j * P by rw [← hD, List.length_drop])
    have HD := Lib.hid hD
    have HC : Hid (∀ w', Grows wr w' → w'.cell? ⟨g, 0, none⟩ = some (.int .i64 (P : Nat)) ∧ w'.cell? ⟨g, 2, none⟩ = some (.string ⟨D.toArray⟩)) := Lib.hid fun w' hw => by
      have h := HH.out.grow hw
      have c0 := Whole.cell h 0
      have c2 := Whole.cell h 2
      simp only [List.getElem?_toArray, List.getElem?_cons_zero, List.getElem?_cons_succ] at c0 c2
      exact ⟨c0, c2⟩
    clear hD
    go_wp2_with (fail)
    by_cases hlt : P ≤ D.length
    · refine q_region mixed (by kernel_rfl) ?_
      refine q_op (.pointer (some ⟨g, 0, none⟩)) (by rfl) ?_ ?_
      · intro w' hC; clear hC; go_simp
      simp only [Act.put, List.setIfInBounds_toArray, List.set_cons_zero, List.set_cons_succ]
      refine q_op (.pointer (some ⟨g, 0, none⟩)) (by rfl) ?_ ?_
      · intro w' hC; clear hC; go_simp
      simp only [Act.put, List.setIfInBounds_toArray, List.set_cons_zero, List.set_cons_succ]
      refine q_op (.pointer (some ⟨g, 2, none⟩)) (by rfl) ?_ ?_
      · intro w' hC; clear hC; go_simp
      simp only [Act.put, List.setIfInBounds_toArray, List.set_cons_zero, List.set_cons_succ]
      refine q_op (.string ⟨D.toArray⟩) (by rfl) ?_ ?_
      · intro w' hC; obtain ⟨c0, c2⟩ := HC.out w' hC; clear hC; go_simp
      simp only [Act.put, List.setIfInBounds_toArray, List.set_cons_zero, List.set_cons_succ]
      refine q_op (.int .i64 (D.length : Nat)) (by rfl) ?_ ?_
      · intro w' hC; have hz := bytes_size D; clear hC; go_simp
      simp only [Act.put, List.setIfInBounds_toArray, List.set_cons_zero, List.set_cons_succ]
      refine q_op (.pointer (some ⟨g, 0, none⟩)) (by rfl) ?_ ?_
      · intro w' hC; clear hC; go_simp
      simp only [Act.put, List.setIfInBounds_toArray, List.set_cons_zero, List.set_cons_succ]
      refine q_op (.pointer (some ⟨g, 0, none⟩)) (by rfl) ?_ ?_
      · intro w' hC; clear hC; go_simp
      simp only [Act.put, List.setIfInBounds_toArray, List.set_cons_zero, List.set_cons_succ]
      refine q_op (.pointer (some ⟨g, 0, none⟩)) (by rfl) ?_ ?_
      · intro w' hC; clear hC; go_simp
      simp only [Act.put, List.setIfInBounds_toArray, List.set_cons_zero, List.set_cons_succ]
      refine q_op (.int .i64 (P : Nat)) (by rfl) ?_ ?_
      · intro w' hC; obtain ⟨c0, c2⟩ := HC.out w' hC; clear hC; go_simp
      simp only [Act.put, List.setIfInBounds_toArray, List.set_cons_zero, List.set_cons_succ]
      refine q_op (.bool true) (by rfl) ?_ ?_
      · intro w' hC; clear hC; go_simp
      simp only [Act.put, List.setIfInBounds_toArray, List.set_cons_zero, List.set_cons_succ]
      refine wpQuiet_nil ?_
      intro w1 hC
      have HEX1 := Lib.hid (extract_take D P hlt)
      have HC5 : Hid (∀ w', Grows w1 w' → w'.cell? ⟨g, 0, none⟩ = some (.int .i64 (P : Nat)) ∧ w'.cell? ⟨g, 2, none⟩ = some (.string ⟨D.toArray⟩)) := Lib.hid fun w' hw => HC.out w' (Grows.trans hC hw)
      have HH1 := Lib.hid (HH.out.grow hC)
      have HR1 := Lib.hid (HR.out.grow hC)
      have HL1 := Lib.hid (HL.out.trans (Spares.grows hC))
      clear hC HC HH HR HL
      have HC := HC5
      have hPi : (0 : Int) ≤ (P : Int) := by omega
      have hPl : (P : Int) ≤ (D.length : Int) := by omega
      have hsz := bytes_size D
      go_wp2_with (fail)
      refine wp_region_facts_tail (E := Grows) 12 [valFact (.slice LA j lc), valFact (.pointer (some ⟨g, 0, none⟩)), valFact (.pointer (some ⟨g, 0, none⟩)), valFact (.pointer (some ⟨g, 2, none⟩)), valFact (.string ⟨D.toArray⟩), valFact (.pointer (some ⟨g, 0, none⟩)), valFact (.pointer (some ⟨g, 0, none⟩)), valFact (.pointer (some ⟨g, 0, none⟩)), valFact (.int .i64 (P : Nat)), valFact (.string ⟨(D.take P).toArray⟩), rowFact (D.take P), boxFact (D.take P)] mixed (by kernel_rfl) (fun _ _ _ => Grows.trans) (grows_drew _) ?_
      simp only [List.take_succ_cons, List.take_zero, List.drop_succ_cons, List.drop_zero]
      refine f_val (.slice LA j lc) (by rfl) ?_ ?_
      · intro w' hC; clear hC; go_simp
      simp only [Act.put, List.setIfInBounds_toArray, List.set_cons_zero, List.set_cons_succ]
      refine f_val (.pointer (some ⟨g, 0, none⟩)) (by rfl) ?_ ?_
      · intro w' hC; clear hC; go_simp
      simp only [Act.put, List.setIfInBounds_toArray, List.set_cons_zero, List.set_cons_succ]
      refine f_val (.pointer (some ⟨g, 0, none⟩)) (by rfl) ?_ ?_
      · intro w' hC; clear hC; go_simp
      simp only [Act.put, List.setIfInBounds_toArray, List.set_cons_zero, List.set_cons_succ]
      refine f_val (.pointer (some ⟨g, 2, none⟩)) (by rfl) ?_ ?_
      · intro w' hC; clear hC; go_simp
      simp only [Act.put, List.setIfInBounds_toArray, List.set_cons_zero, List.set_cons_succ]
      refine f_val (.string ⟨D.toArray⟩) (by rfl) ?_ ?_
      · intro w' hC; obtain ⟨c0, c2⟩ := HC.out w' hC; clear hC; go_simp
      simp only [Act.put, List.setIfInBounds_toArray, List.set_cons_zero, List.set_cons_succ]
      refine f_val (.pointer (some ⟨g, 0, none⟩)) (by rfl) ?_ ?_
      · intro w' hC; clear hC; go_simp
      simp only [Act.put, List.setIfInBounds_toArray, List.set_cons_zero, List.set_cons_succ]
      refine f_val (.pointer (some ⟨g, 0, none⟩)) (by rfl) ?_ ?_
      · intro w' hC; clear hC; go_simp
      simp only [Act.put, List.setIfInBounds_toArray, List.set_cons_zero, List.set_cons_succ]
      refine f_val (.pointer (some ⟨g, 0, none⟩)) (by rfl) ?_ ?_
      · intro w' hC; clear hC; go_simp
      simp only [Act.put, List.setIfInBounds_toArray, List.set_cons_zero, List.set_cons_succ]
      refine f_val (.int .i64 (P : Nat)) (by rfl) ?_ ?_
      · intro w' hC; obtain ⟨c0, c2⟩ := HC.out w' hC; clear hC; go_simp
      simp only [Act.put, List.setIfInBounds_toArray, List.set_cons_zero, List.set_cons_succ]
      refine f_val (.string ⟨(D.take P).toArray⟩) (by rfl) ?_ ?_
      · intro w' hC; clear hC; (have hx := HEX1.out; go_simp)
      simp only [Act.put, List.setIfInBounds_toArray, List.set_cons_zero, List.set_cons_succ]
      refine f_bytes (D.take P) (.tmp 45) (by rfl) rfl rfl ?_
      intro g5 c5
      simp only [Act.put, List.setIfInBounds_toArray, List.set_cons_zero, List.set_cons_succ]
      refine f_boxed (D.take P) g5 c5 (by rfl) ?_ (fun w' hk => Known.get hk 0 rfl (by rfl)) ?_
      · intro w' hC; clear hC; go_simp
      intro gb g6 c6
      simp only [Act.put, List.setIfInBounds_toArray, List.set_cons_zero, List.set_cons_succ]
      refine wpF_end ?_
      intro w4 hC hks
      have HCw4 := Lib.hid hC
      have HROW := Lib.hid (Known.at hks 0 rfl)
      clear hC hks
      have HH4 := Lib.hid (HH1.out.grow HCw4.out)
      obtain ⟨hcnt, hs4, ho4, hr4⟩ := HR1.out.grow HCw4.out
      have hj2 : j * 1 ≤ j * P := Nat.mul_le_mul_left _ hP.1
      have hjl : j ≤ 2000000 := by omega
      have hb4 : w.heap.size ≤ w4.heap.size := Nat.le_trans HL1.out.size HCw4.out.size
      have HO4 := Lib.hid (And.intro hcnt (And.intro ho4 hr4))
      clear hcnt ho4 hr4
      refine list_append_row rfl (.tmp 36) (.tmp 47) 51 rfl Try.underlying51 HI.out.1 HI.out.2.1 HI.out.2.2.1 HI.out.2.2.2 rfl rfl HO4.out.2.1 rfl (one_row HROW.out.1) (fun h => by cases h) (by intro u hu; rw [List.mem_singleton.1 hu]; rfl) (j + 1) rfl _ rfl (by unfold maxLen; omega) (by omega) hb4 ?_
      intro LA5 lc5 w5 hown5 _ hgr5 _
      have hrr := RefRows.more HO4.out.1 HO4.out.2.1 HO4.out.2.2 HROW.out.2 hown5 hgr5
      have hpj : piecesN P T j ++ [D.take P] = piecesN P T (j + 1) := by rw [piecesN_snoc, pieceB, HD.out]
      rw [hpj] at hrr
      have hh5 : RefHas w5 g P (Z + n) D := (hgr5.block g (Whole.lt HH4.out) fun e => by
        have := (owned_lt HO4.out.2.1 e.symm).1
        have := HGW.out
        omega).trans HH4.out
      have hl5 : Spares (fun k => k = g) w w5 := ((HL1.out.trans (Spares.grows HCw4.out))).trans2 hgr5 (fun k hk => (owned_lt HO4.out.2.1 hk).1)
      have HR5 := Lib.hid hrr
      have HH5 := Lib.hid hh5
      have HL5 := Lib.hid hl5
      have HC6 : Hid (∀ w', Grows w5 w' → w'.cell? ⟨g, 0, none⟩ = some (.int .i64 (P : Nat)) ∧ w'.cell? ⟨g, 2, none⟩ = some (.string ⟨D.toArray⟩)) := Lib.hid fun w' hw => by
        have h := hh5.grow hw
        have c0 := Whole.cell h 0
        have c2 := Whole.cell h 2
        simp only [List.getElem?_toArray, List.getElem?_cons_zero, List.getElem?_cons_succ] at c0 c2
        exact ⟨c0, c2⟩
      have HEX2 := Lib.hid (extract_drop D P)
      clear hrr hpj hh5 hl5 hown5 hgr5 HO4 HROW HH4 HC hj2
      go_wp2_with (fail)
      refine wp_region_facts_tail (E := Grows) 12 [valFact (.pointer (some ⟨g, 0, none⟩)), valFact (.pointer (some ⟨g, 0, none⟩)), valFact (.pointer (some ⟨g, 0, none⟩)), valFact (.pointer (some ⟨g, 2, none⟩)), valFact (.string ⟨D.toArray⟩), valFact (.pointer (some ⟨g, 0, none⟩)), valFact (.pointer (some ⟨g, 0, none⟩)), valFact (.pointer (some ⟨g, 0, none⟩)), valFact (.int .i64 (P : Nat)), valFact (.string ⟨(D.drop P).toArray⟩), valFact (.pointer (some ⟨g, 0, none⟩)), valFact (.pointer (some ⟨g, 2, none⟩))] mixed (by kernel_rfl) (fun _ _ _ => Grows.trans) (grows_drew _) ?_
      simp only [List.take_succ_cons, List.take_zero, List.drop_succ_cons, List.drop_zero]
      refine f_val (.pointer (some ⟨g, 0, none⟩)) (by rfl) ?_ ?_
      · intro w' hC; clear hC; go_simp
      simp only [Act.put, List.setIfInBounds_toArray, List.set_cons_zero, List.set_cons_succ]
      refine f_val (.pointer (some ⟨g, 0, none⟩)) (by rfl) ?_ ?_
      · intro w' hC; clear hC; go_simp
      simp only [Act.put, List.setIfInBounds_toArray, List.set_cons_zero, List.set_cons_succ]
      refine f_val (.pointer (some ⟨g, 0, none⟩)) (by rfl) ?_ ?_
      · intro w' hC; clear hC; go_simp
      simp only [Act.put, List.setIfInBounds_toArray, List.set_cons_zero, List.set_cons_succ]
      refine f_val (.pointer (some ⟨g, 2, none⟩)) (by rfl) ?_ ?_
      · intro w' hC; clear hC; go_simp
      simp only [Act.put, List.setIfInBounds_toArray, List.set_cons_zero, List.set_cons_succ]
      refine f_val (.string ⟨D.toArray⟩) (by rfl) ?_ ?_
      · intro w' hC; obtain ⟨c0, c2⟩ := HC6.out w' hC; clear hC; go_simp
      simp only [Act.put, List.setIfInBounds_toArray, List.set_cons_zero, List.set_cons_succ]
      refine f_val (.pointer (some ⟨g, 0, none⟩)) (by rfl) ?_ ?_
      · intro w' hC; clear hC; go_simp
      simp only [Act.put, List.setIfInBounds_toArray, List.set_cons_zero, List.set_cons_succ]
      refine f_val (.pointer (some ⟨g, 0, none⟩)) (by rfl) ?_ ?_
      · intro w' hC; clear hC; go_simp
      simp only [Act.put, List.setIfInBounds_toArray, List.set_cons_zero, List.set_cons_succ]
      refine f_val (.pointer (some ⟨g, 0, none⟩)) (by rfl) ?_ ?_
      · intro w' hC; clear hC; go_simp
      simp only [Act.put, List.setIfInBounds_toArray, List.set_cons_zero, List.set_cons_succ]
      refine f_val (.int .i64 (P : Nat)) (by rfl) ?_ ?_
      · intro w' hC; obtain ⟨c0, c2⟩ := HC6.out w' hC; clear hC; go_simp
      simp only [Act.put, List.setIfInBounds_toArray, List.set_cons_zero, List.set_cons_succ]
      refine f_val (.string ⟨(D.drop P).toArray⟩) (by rfl) ?_ ?_
      · intro w' hC; clear hC; (have hx := HEX2.out; go_simp)
      simp only [Act.put, List.setIfInBounds_toArray, List.set_cons_zero, List.set_cons_succ]
      refine f_val (.pointer (some ⟨g, 0, none⟩)) (by rfl) ?_ ?_
      · intro w' hC; clear hC; go_simp
      simp only [Act.put, List.setIfInBounds_toArray, List.set_cons_zero, List.set_cons_succ]
      refine f_val (.pointer (some ⟨g, 2, none⟩)) (by rfl) ?_ ?_
      · intro w' hC; clear hC; go_simp
      simp only [Act.put, List.setIfInBounds_toArray, List.set_cons_zero, List.set_cons_succ]
      refine wpF_end ?_
      intro w6 hC hks
      have HCw6 := Lib.hid hC
      clear hC hks
      have h6 := HH5.out.grow HCw6.out
      have d2 := Whole.cell h6 2
      have f2 := Whole.free h6 2
      simp only [List.getElem?_toArray, List.getElem?_cons_zero, List.getElem?_cons_succ] at d2
      obtain ⟨w7, hw7⟩ : ∃ w7, w6.setCell ⟨g, 2, none⟩ (.string ⟨(D.drop P).toArray⟩) = w7 := ⟨_, rfl⟩
      have h7 : RefHas w7 g P (Z + n) (D.drop P) := hw7 ▸ Whole.put h6 2 _
      have hr7 : RefRows w7 w.heap.size LA5 (j + 1) lc5 (piecesN P T (j + 1)) := hw7 ▸ (HR5.out.grow HCw6.out).set h6 (by decide) _
      have hl7 : Spares (fun k => k = g) w w7 := hw7 ▸ (HL5.out.trans (Spares.grows HCw6.out)).setCell (p := ⟨g, 2, none⟩) rfl _
      rw [← HD.out, List.drop_drop, ← Nat.succ_mul] at h7
      have HX7 := Lib.hid hw7
      have H7 := Lib.hid (And.intro h7 (And.intro hr7 hl7))
      clear hw7 h7 hr7 hl7 h6
      go_wp2_with (first | rw [HX7.out] | fail)
      go_roundw
      case rel => exact ⟨j + 1, LA5, lc5, by have := HDL.out; rw [Nat.add_mul]; omega, rfl, Lib.hid H7.out.2.1, Lib.hid H7.out.1, Lib.hid H7.out.2.2⟩
      case measure =>
        have := HDL.out
        have hj2 : j * 1 ≤ j * P := Nat.mul_le_mul_left _ hP.1
        simp [lenOf]
        omega
    · refine q_region mixed (by kernel_rfl) ?_
      refine q_op (.pointer (some ⟨g, 0, none⟩)) (by rfl) ?_ ?_
      · intro w' hC; clear hC; go_simp
      simp only [Act.put, List.setIfInBounds_toArray, List.set_cons_zero, List.set_cons_succ]
      refine q_op (.pointer (some ⟨g, 0, none⟩)) (by rfl) ?_ ?_
      · intro w' hC; clear hC; go_simp
      simp only [Act.put, List.setIfInBounds_toArray, List.set_cons_zero, List.set_cons_succ]
      refine q_op (.pointer (some ⟨g, 2, none⟩)) (by rfl) ?_ ?_
      · intro w' hC; clear hC; go_simp
      simp only [Act.put, List.setIfInBounds_toArray, List.set_cons_zero, List.set_cons_succ]
      refine q_op (.string ⟨D.toArray⟩) (by rfl) ?_ ?_
      · intro w' hC; obtain ⟨c0, c2⟩ := HC.out w' hC; clear hC; go_simp
      simp only [Act.put, List.setIfInBounds_toArray, List.set_cons_zero, List.set_cons_succ]
      refine q_op (.int .i64 (D.length : Nat)) (by rfl) ?_ ?_
      · intro w' hC; have hz := bytes_size D; clear hC; go_simp
      simp only [Act.put, List.setIfInBounds_toArray, List.set_cons_zero, List.set_cons_succ]
      refine q_op (.pointer (some ⟨g, 0, none⟩)) (by rfl) ?_ ?_
      · intro w' hC; clear hC; go_simp
      simp only [Act.put, List.setIfInBounds_toArray, List.set_cons_zero, List.set_cons_succ]
      refine q_op (.pointer (some ⟨g, 0, none⟩)) (by rfl) ?_ ?_
      · intro w' hC; clear hC; go_simp
      simp only [Act.put, List.setIfInBounds_toArray, List.set_cons_zero, List.set_cons_succ]
      refine q_op (.pointer (some ⟨g, 0, none⟩)) (by rfl) ?_ ?_
      · intro w' hC; clear hC; go_simp
      simp only [Act.put, List.setIfInBounds_toArray, List.set_cons_zero, List.set_cons_succ]
      refine q_op (.int .i64 (P : Nat)) (by rfl) ?_ ?_
      · intro w' hC; obtain ⟨c0, c2⟩ := HC.out w' hC; clear hC; go_simp
      simp only [Act.put, List.setIfInBounds_toArray, List.set_cons_zero, List.set_cons_succ]
      refine q_op (.bool false) (by rfl) ?_ ?_
      · intro w' hC; clear hC; go_simp
      simp only [Act.put, List.setIfInBounds_toArray, List.set_cons_zero, List.set_cons_succ]
      refine wpQuiet_nil ?_
      intro w1 hC
      have HC1 := Lib.hid hC
      clear hC
      go_wp2_with (fail)
      have hq : T.length / P = j := pieces_many hP.1 hj (by rw [Nat.add_mul]; have := HDL.out; omega)
      have hpq : piecesB P T = piecesN P T j := by unfold piecesB; rw [hq]
      have hrq : restB P T = T.drop (j * P) := by unfold restB; rw [hq]
      have hll : (piecesN P T j).length = j := piecesN_len
      go_ret
      rw [HT.out, hpq, hrq, hll, HD.out]
      exact ⟨LA, lc, rfl, HR.out.grow HC1.out, HH.out.grow HC1.out, HL.out.trans (Spares.grows HC1.out)⟩
end Go.Proofs.Ytlcpbkbojjpfaaa
