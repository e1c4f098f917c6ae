/-
  keys: a place is appended to its cell.
-/
import Derived.Test.YtadgbobemmfjoaaKsEach
import Derived.Test.YtadgbobemmfjoaaJobSteps
namespace Go.Proofs.Ytadgbobemmfjoaa
open Go.RowKit
set_option linter.unusedVariables false
set_option linter.unusedSimpArgs false

theorem exec_appK {P : Program} {o : Oper} {a : Act} {w w' : World} {s x : Operand} {t u : TypeId} {v1 v2 v : Value} (ho : o.op = .call { callee := .builtin .append, args := #[s, x], argTypes := #[t, u] }) (hs : a.eval s = v1) (hx : a.eval x = v2)
    (hrun : (Builtin.append_ #[t, u] o.type #[v1, v2]).run P w = .ok v w') : (execOp a.eval o).run P w = .ok (.value v) w' := by
  unfold execOp
  simp only [ho, resolve, invoke, builtin, Sem.run_bind, Sem.run_pure, Result.andThen_ok, List.map_toArray, List.map_cons, List.map_nil, hs, hx, hrun]
section
variable {own : Nat → Prop} {P : Program} {ops : Array Oper} {W : World} {Q : Act → World → Prop} {o : Oper} {rest : List Oper} {js : List (Job Grows (Spares own))} {ks : Known} {C : World → Prop} {a : Act}
theorem j_clsK {α : Type} {x0 : α} {val : α → Value} {C' : α → World → Prop} {hC' : ∀ x w w', C' x w → Grows w w' → C' x w'} (hw : Region.wanted o (yielded ops a.tmps) = true)
    (h1 : ∀ w, Spares own W w → C w → ks.for (o.looksAt ops) w → ∃ x w', (execOp a.eval o).run P w = .ok (.value (val x)) w' ∧ Spares own w w' ∧ C' x w') (h2 : ∀ x, wpJ P ops W Q rest js ks (C' x) (a.put o.dst (val x))) :
    wpJ P ops W Q (o :: rest) (clsJob own α x0 val C' hC' :: js) ks C a := by
  unfold wpJ jStep
  rw [if_pos hw]
  refine ⟨fun w hW hk hC => ?_, fun x => wpJ_more _ _ ks _ _ _ (fun k hk => List.mem_cons_of_mem _ hk) (h2 x)⟩
  obtain ⟨x, w', hr, hs, hc⟩ := h1 w hW (hC rfl) hk
  rw [hr]
  exact ⟨x, rfl, trivial, fun _ => ⟨hs, hc⟩, fun h => by cases h⟩
end
/-- A cell's places behind an append. -/
structure PlRow (B : Nat) (v0 : Value) (l : List Pl) (A : Option Addr) (n c : Nat) (w : World) : Prop where
  own : w.ownsRow 0 32 5 (.slice A n c) n (l.flatMap plE)
  len : l.length = n
  from_ : ∀ k, (Value.slice A n c).ownBlock = some k → v0.ownBlock = some k ∨ B ≤ k
theorem PlRow.grow {B n c : Nat} {v0 : Value} {l : List Pl} {A : Option Addr} {w w' : World} (h : PlRow B v0 l A n c w) (hg : Grows w w') : PlRow B v0 l A n c w' := ⟨owned_grow h.own hg, h.len, h.from_⟩
theorem app_place {w : World} {ty B : Nat} {A : Option Addr} {n c : Nat} {l : List Pl} (hown : w.ownsRow 0 32 5 (.slice A n c) n (l.flatMap plE)) (hln : l.length = n)
    {g t0 : Nat} {cs : Array Value} (hw : Whole w g t0 cs) (x : Pl) (hcs : cs = (plE x).toArray) (hn : n < 1000000) (hB : B ≤ w.heap.size) :
    ∃ A' c' w', (Builtin.append_ #[54, 54] ty #[.slice A n c, .slice (some ⟨g, 0, none⟩) 1 1]).run Try.prog w = .ok (.slice A' (n + 1) c') w' ∧ PlRow B (.slice A n c) (l ++ [x]) A' (n + 1) c' w' ∧ Spares (fun k => (Value.slice A n c).ownBlock = some k) w w' := by
  subst hcs
  obtain ⟨i0, hi0, hz0, hz1, hz2⟩ := info_of infoPl
  have hcell : ∀ (j : Nat) (u : Value), (plE x)[j]? = some u → w.cell? ((⟨g, 0, none⟩ : Addr).add j) = some u := fun j u hj => by
    rw [show (⟨g, 0, none⟩ : Addr).add j = ⟨g, j, none⟩ by unfold Addr.add; split <;> simp_all, hw.cell j]
    simpa using hj
  obtain ⟨v', w', hr, h2, h3, _, h5⟩ := run_append_own_at (P := Try.prog) (w := w) 0 54 ty 32 i0 (.agg #[.int .i64 0, .int .i64 0, .string ⟨#[]⟩, .int .i64 0, .int .i64 0]) 5 48 Try.underlying54 hi0 hz0 hz1 hz2 rfl (by omega) (.slice A n c) n (l.flatMap plE) hown ⟨g, 0, none⟩ 1 1 (plE x) rfl hcell (plE_one x) (by unfold maxLen; omega) (by omega) (Nat.zero_le _)
  obtain ⟨A', c', rfl⟩ := slice_ownP h2
  refine ⟨A', c', w', hr, ⟨by rw [flat_snoc]; exact h2, by simp [hln], fun k hk => ?_⟩, ⟨h3.os, h3.tape, h3.output, h3.size, fun k hk hn => h3.block k hk fun e => hn e.symm⟩⟩
  rcases h5 with h5 | h5
  · rw [h5] at hk; exact .inl hk
  · rw [h5] at hk; injection hk with hk; exact .inr (by omega)
/-- A cell's slice behind it is stored. -/
theorem CellsV.stored {w w5 : World} {S : Nat → Prop} {g : Nat} {cells : List (List Pl)} {vs : List Value} (h : CellsV w S g cells vs) {c : Nat} {v0 v : Value} {l : List Pl} (hc : c < cells.length) (hv0 : vs[c]? = some v0)
    (hs : Spares (fun k => v0.ownBlock = some k) w w5) (ho : OwnP w5 0 v l) (hnew : ∀ k, v.ownBlock = some k → v0.ownBlock = some k ∨ w.heap.size ≤ k) :
    CellsV (w5.setCell ⟨g, c, none⟩ v) (fun k => S k ∨ (w.heap.size ≤ k ∧ k < (w5.setCell ⟨g, c, none⟩ v).heap.size)) g (cells.set c l) (vs.set c v) ∧ Spares S w (w5.setCell ⟨g, c, none⟩ v) := by
  have hg := h.lt g h.gS
  have hgb : v0.ownBlock ≠ some g := fun e => (h.inS c v0 g hv0 e).2 rfl
  have hW5 : Whole w5 g 54 vs.toArray := (hs.same g hg hgb).trans h.blk
  have hsz : (w5.setCell ⟨g, c, none⟩ v).heap.size = w5.heap.size := by simp
  have hoth : ∀ k, k ≠ g → (w5.setCell ⟨g, c, none⟩ v).heap[k]? = w5.heap[k]? := fun k hk => heap_setCell_other w5 ⟨g, c, none⟩ k v (fun e => hk (by simpa using e))
  refine ⟨?_, ⟨hs.os, hs.tape, hs.output, by rw [hsz]; exact hs.size, fun k hk hn => ?_⟩⟩
  · refine h.turn hc hv0 ?_ (by rw [hsz]; exact hs.size) (owned_same3 ho fun k hk => hoth k fun e => ?_) hnew fun k hk hkg hkv => ?_
    · have := hW5.put c v
      rw [List.setIfInBounds_toArray] at this
      exact this
    · subst e
      rcases hnew k hk with e | e
      · exact hgb e
      · omega
    · rw [hoth k hkg]
      exact hs.same k (h.lt k hk) hkv
  · rw [hoth k fun e => by subst e; exact hn h.gS]
    exact hs.same k hk fun e => hn (h.inS c v0 k hv0 e).1

set_option maxHeartbeats 1000000 in
set_option maxRecDepth 100000 in
theorem spread1_any {b o g tb : Nat} {S : Nat → Prop} {cells : List (List Pl)} {vs : List Value} (p : Pl) (w : World) (hb : ¬ S b) (hc0 : w.cell? ⟨b, o, none⟩ = some (.slice (some ⟨g, 0, none⟩) cells.length cells.length)) (h : CellsV w S g cells vs)
    (htb : w.cell? ⟨tb, 0, none⟩ = some (.pointer (some ⟨b, o, none⟩))) (hbt : ¬ S tb) (h0 : 0 < cells.length) (hn : cells.length ≤ 1000000 ∧ ∀ l ∈ cells, l.length < 1000000) (hk : p.key.length ≤ 1000000000) :
    Calls Try.prog 37 #[plV p, .pointer (some ⟨tb, 0, none⟩)] w fun e w' => e = .returned (.tuple #[]) ∧ Spares S w w' ∧
      ∃ vs', CellsV w' (fun k => S k ∨ (w.heap.size ≤ k ∧ k < w'.heap.size)) g (cells.set (cellOf cells.length p.key) (cells.getD (cellOf cells.length p.key) [] ++ [p])) vs' := by
  have hc := cellOf_lt h0 p.key
  obtain ⟨l, A, cap, hl, hv, hcell, ho, hP, hD⟩ := h.at hc
  rw [hD]
  have hll := hn.2 l (List.mem_of_getElem? hl)
  obtain ⟨p0, p1, p2, p3, p4⟩ := p
  dsimp only at hc hl hv hcell hk hD ⊢
  show Calls _ _ #[.agg #[.int .i64 p0, .int .i64 p1, .string ⟨p2.toArray⟩, .int .i64 p3, .int .i64 p4], _] _ _
  have hg1 := grows_alloc w (.cells #[.int .i64 p0, .int .i64 p1, .string ⟨p2.toArray⟩, .int .i64 p3, .int .i64 p4] 32)
  have hm1 := Whole.made w 32 #[.int .i64 p0, .int .i64 p1, .string ⟨p2.toArray⟩, .int .i64 p3, .int .i64 p4]
  obtain ⟨W1, hW1⟩ : ∃ W1, w.alloc (.cells #[.int .i64 p0, .int .i64 p1, .string ⟨p2.toArray⟩, .int .i64 p3, .int .i64 p4] 32) = W1 := ⟨_, rfl⟩
  rw [hW1] at hg1 hm1
  obtain ⟨pb, hpb⟩ : ∃ pb, w.heap.size = pb := ⟨_, rfl⟩
  rw [hpb] at hm1
  have ct := (hg1.cell (p := ⟨tb, 0, none⟩) (World.block_lt_of_cell? w _ htb)).trans htb
  have ck := hm1.cell 2
  simp only [List.getElem?_toArray, List.getElem?_cons_zero, List.getElem?_cons_succ] at ck
  have HCELL := Lib.hid (cell_any p2 hk W1 ((hg1.cell (p := ⟨b, o, none⟩) (World.block_lt_of_cell? w _ hc0)).trans hc0) ⟨h0, hn.1⟩)
  have H1 := Lib.hid (And.intro h (And.intro hg1 hm1))
  obtain ⟨ci, hci⟩ : ∃ ci, cellOf cells.length p2 = ci := ⟨_, rfl⟩
  rw [hci] at hc hl hv hcell HCELL hD ⊢
  obtain ⟨M, hM⟩ : ∃ M, l.length = M := ⟨_, rfl⟩
  rw [hM] at hcell hv hll
  rw [hM] at ho
  have HV := Lib.hid (And.intro hv (And.intro hc (And.intro hl hpb)))
  have HOFF := Lib.hid (And.intro hb (And.intro hbt (And.intro hc0 htb)))
  have hown := ho
  unfold OwnP at hown
  rw [hM] at hown
  have HO := Lib.hid (And.intro hown (And.intro hM hll))
  obtain ⟨N, hN⟩ : ∃ N, cells.length = N := ⟨_, rfl⟩
  rw [hN] at hc0 hc
  have HK := Lib.hid (show (0 : Int) ≤ (ci : Int) ∧ (ci : Int) < (N : Int) from by omega)
  have hreads : ∀ w2, Grows W1 w2 → ∀ w', Spares (fun k => (Value.slice A M cap).ownBlock = some k) w2 w' → w'.cell? ⟨tb, 0, none⟩ = some (.pointer (some ⟨b, o, none⟩)) ∧ w'.cell? ⟨b, o, none⟩ = some (.slice (some ⟨g, 0, none⟩) N N) ∧ w'.cell? ⟨g, ci, none⟩ = some (.slice A M cap) ∧
      w'.cell? ⟨pb, 0, none⟩ = some (.int .i64 p0) ∧ w'.cell? ⟨pb, 1, none⟩ = some (.int .i64 p1) ∧ w'.cell? ⟨pb, 2, none⟩ = some (.string ⟨p2.toArray⟩) ∧ w'.cell? ⟨pb, 3, none⟩ = some (.int .i64 p3) ∧ w'.cell? ⟨pb, 4, none⟩ = some (.int .i64 p4) := by
    intro w2 hg2 w' hs
    have hgw := Grows.trans hg1 hg2
    have hS : ∀ k, (Value.slice A M cap).ownBlock = some k → S k ∧ k ≠ g := fun k e => h.inS ci _ k (by rw [hv]) e
    have tr : ∀ (q : Addr) (v : Value), w.cell? q = some v → (¬ S q.block ∨ q.block = g) → w'.cell? q = some v := fun q v hq hne => by
      have hlt := World.block_lt_of_cell? w q hq
      rw [World.cell?_of_block (hs.same q.block (Nat.lt_of_lt_of_le hlt hgw.size) fun e => hne.elim (fun h => h (hS _ e).1) (hS _ e).2), hgw.cell hlt]
      exact hq
    have hmp := hg2.whole hm1
    have hmp' : Whole w' pb 32 #[.int .i64 p0, .int .i64 p1, .string ⟨p2.toArray⟩, .int .i64 p3, .int .i64 p4] := (hs.same pb hmp.lt fun e => by have := h.lt pb (hS pb e).1; omega).trans hmp
    refine ⟨tr _ _ htb (.inl hbt), tr _ _ hc0 (.inl hb), tr _ _ hcell (.inr rfl), ?_, ?_, ?_, ?_, ?_⟩ <;> (rw [hmp'.cell]; rfl)
  have HRD := Lib.hid hreads
  clear hcell hP ho hv hl hD hll hM hci h hg1 hm1 hn hreads hown hb hbt hc0 htb
  go_enter Try.func37, Try.ntmps37
  go_wp2_with (first | rw [hW1] | fail)
  refine HCELL.out.mono ?_
  rintro e w2 ⟨rfl, hg2⟩
  have HF := Lib.hid (HRD.out w2 hg2)
  have HG2 := Lib.hid (Grows.trans H1.out.2.1 hg2)
  have HM := Lib.hid (show (w2.ownsRow 0 32 5 (.slice A M cap) M (l.flatMap plE) ∧ l.length = M) ∧ M < 1000000 from ⟨⟨owned_grow HO.out.1 HG2.out, HO.out.2.1⟩, HO.out.2.2⟩)
  have HOWN := Lib.hid (show ∀ k, (Value.slice A M cap).ownBlock = some k → k < w2.heap.size from fun k e => (owned_lt3 HM.out.1.1 e).2)
  clear hg2 ct ck HRD HCELL
  go_wp2_with (fail)
  refine wp_region_jobs (G := Grows) (E := Spares (fun k => (Value.slice A M cap).ownBlock = some k)) 16 [valJob (fun k => (Value.slice A M cap).ownBlock = some k) (.pointer (some ⟨b, o, none⟩)), valJob (fun k => (Value.slice A M cap).ownBlock = some k) (.pointer (some ⟨b, o, none⟩)), valJob (fun k => (Value.slice A M cap).ownBlock = some k) (.pointer (some ⟨b, o, none⟩)), valJob (fun k => (Value.slice A M cap).ownBlock = some k) (.slice (some ⟨g, 0, none⟩) N N), valJob (fun k => (Value.slice A M cap).ownBlock = some k) (.int .i64 (ci : Int)), valJob (fun k => (Value.slice A M cap).ownBlock = some k) (.pointer (some ⟨b, o, none⟩)), valJob (fun k => (Value.slice A M cap).ownBlock = some k) (.pointer (some ⟨b, o, none⟩)), valJob (fun k => (Value.slice A M cap).ownBlock = some k) (.pointer (some ⟨b, o, none⟩)), valJob (fun k => (Value.slice A M cap).ownBlock = some k) (.slice (some ⟨g, 0, none⟩) N N), valJob (fun k => (Value.slice A M cap).ownBlock = some k) (.int .i64 (ci : Int)), valJob (fun k => (Value.slice A M cap).ownBlock = some k) (.pointer (some ⟨g, ci, none⟩)), valJob (fun k => (Value.slice A M cap).ownBlock = some k) (.slice A M cap), valJob (fun k => (Value.slice A M cap).ownBlock = some k) (.agg #[.int .i64 p0, .int .i64 p1, .string ⟨p2.toArray⟩, .int .i64 p3, .int .i64 p4]), blkJob (fun k => (Value.slice A M cap).ownBlock = some k) (32) (#[.int .i64 p0, .int .i64 p1, .string ⟨p2.toArray⟩, .int .i64 p3, .int .i64 p4]) 1, clsJob (fun k => (Value.slice A M cap).ownBlock = some k) (Option Addr × Nat) (none, 0) (fun q => .slice q.1 (M + 1) q.2) (fun q w' => ∃ k1, k1 = M + 1 ∧ PlRow w2.heap.size (.slice A M cap) (l ++ [⟨p0, p1, p2, p3, p4⟩]) q.1 k1 q.2 w') (fun _ _ _ h hg => h.elim fun k1 h => ⟨k1, h.1, h.2.grow hg⟩), valJob (fun k => (Value.slice A M cap).ownBlock = some k) (.pointer (some ⟨g, ci, none⟩))] [(false, false), (false, false), (false, false), (false, false), (false, false), (false, false), (false, false), (false, false), (false, false), (false, false), (false, false), (false, false), (false, false), (false, false), (true, true), (false, false)] (fun w => w.ownsRow 0 32 5 (.slice A M cap) M (l.flatMap plE) ∧ l.length = M) rfl mixed (by kernel_rfl) (fun _ _ => Spares.grows) (fun _ _ _ => Spares.trans) (spares_drew _ _) (⟨owned_same3 HM.out.1.1 fun _ _ => rfl, HM.out.1.2⟩) (fun _ _ h g => ⟨owned_grow h.1 g, h.2⟩) ?_
  simp only [List.take_succ_cons, List.take_zero, List.drop_succ_cons, List.drop_zero]
  refine j_val (.pointer (some ⟨b, o, none⟩)) (by rfl) ?_ ?_
  · intro w' hC; obtain ⟨zt, z0, z1, zp0, zp1, zp2, zp3, zp4⟩ := HF.out w' hC; clear hC; go_simp
  simp only [Act.put, List.setIfInBounds_toArray, List.set_cons_zero, List.set_cons_succ]
  refine j_val (.pointer (some ⟨b, o, none⟩)) (by rfl) ?_ ?_
  · intro w' hC; clear hC; go_simp
  simp only [Act.put, List.setIfInBounds_toArray, List.set_cons_zero, List.set_cons_succ]
  refine j_val (.pointer (some ⟨b, o, none⟩)) (by rfl) ?_ ?_
  · intro w' hC; clear hC; go_simp
  simp only [Act.put, List.setIfInBounds_toArray, List.set_cons_zero, List.set_cons_succ]
  refine j_val (.slice (some ⟨g, 0, none⟩) N N) (by rfl) ?_ ?_
  · intro w' hC; obtain ⟨zt, z0, z1, zp0, zp1, zp2, zp3, zp4⟩ := HF.out w' hC; clear hC; go_simp
  simp only [Act.put, List.setIfInBounds_toArray, List.set_cons_zero, List.set_cons_succ]
  refine j_val (.int .i64 (ci : Int)) (by rfl) ?_ ?_
  · intro w' hC; clear hC; go_simp
  simp only [Act.put, List.setIfInBounds_toArray, List.set_cons_zero, List.set_cons_succ]
  refine j_val (.pointer (some ⟨b, o, none⟩)) (by rfl) ?_ ?_
  · intro w' hC; obtain ⟨zt, z0, z1, zp0, zp1, zp2, zp3, zp4⟩ := HF.out w' hC; clear hC; go_simp
  simp only [Act.put, List.setIfInBounds_toArray, List.set_cons_zero, List.set_cons_succ]
  refine j_val (.pointer (some ⟨b, o, none⟩)) (by rfl) ?_ ?_
  · intro w' hC; clear hC; go_simp
  simp only [Act.put, List.setIfInBounds_toArray, List.set_cons_zero, List.set_cons_succ]
  refine j_val (.pointer (some ⟨b, o, none⟩)) (by rfl) ?_ ?_
  · intro w' hC; clear hC; go_simp
  simp only [Act.put, List.setIfInBounds_toArray, List.set_cons_zero, List.set_cons_succ]
  refine j_val (.slice (some ⟨g, 0, none⟩) N N) (by rfl) ?_ ?_
  · intro w' hC; obtain ⟨zt, z0, z1, zp0, zp1, zp2, zp3, zp4⟩ := HF.out w' hC; clear hC; go_simp
  simp only [Act.put, List.setIfInBounds_toArray, List.set_cons_zero, List.set_cons_succ]
  refine j_val (.int .i64 (ci : Int)) (by rfl) ?_ ?_
  · intro w' hC; clear hC; go_simp
  simp only [Act.put, List.setIfInBounds_toArray, List.set_cons_zero, List.set_cons_succ]
  refine j_val (.pointer (some ⟨g, ci, none⟩)) (by rfl) ?_ ?_
  · intro w' hC; have j0 := HK.out.1; have j1 := HK.out.2; clear hC; go_simp
  simp only [Act.put, List.setIfInBounds_toArray, List.set_cons_zero, List.set_cons_succ]
  refine j_val (.slice A M cap) (by rfl) ?_ ?_
  · intro w' hC; obtain ⟨zt, z0, z1, zp0, zp1, zp2, zp3, zp4⟩ := HF.out w' hC; clear hC; go_simp
  simp only [Act.put, List.setIfInBounds_toArray, List.set_cons_zero, List.set_cons_succ]
  refine j_val (.agg #[.int .i64 p0, .int .i64 p1, .string ⟨p2.toArray⟩, .int .i64 p3, .int .i64 p4]) (by rfl) ?_ ?_
  · intro w' hC; obtain ⟨zt, z0, z1, zp0, zp1, zp2, zp3, zp4⟩ := HF.out w' hC; clear hC; go_simp
  simp only [Act.put, List.setIfInBounds_toArray, List.set_cons_zero, List.set_cons_succ]
  refine j_made (32) (#[.int .i64 p0, .int .i64 p1, .string ⟨p2.toArray⟩, .int .i64 p3, .int .i64 p4]) 1 (HOWN.out) (by rfl) ?_ ?_
  · intro w' hC; clear hC; go_simp
  intro g1
  simp only [Act.put, List.setIfInBounds_toArray, List.set_cons_zero, List.set_cons_succ]
  refine j_clsK (by rfl) (fun w' hC hcls hks => ?_) ?_
  · obtain ⟨A', c', w2, hr, hc2, hk2⟩ := app_place (ty := 54) hcls.1 hcls.2 (Known.get hks 0 rfl rfl).1 ⟨p0, p1, p2, p3, p4⟩ rfl HM.out.2 hC.size
    exact ⟨(A', c'), w2, exec_appK rfl rfl rfl hr, hk2, _, rfl, hc2⟩
  rintro ⟨A1, c1⟩
  dsimp only
  simp only [Act.put, List.setIfInBounds_toArray, List.set_cons_zero, List.set_cons_succ]
  refine j_val (.pointer (some ⟨g, ci, none⟩)) (by rfl) ?_ ?_
  · intro w' hC; have j0 := HK.out.1; have j1 := HK.out.2; clear hC; go_simp
  simp only [Act.put, List.setIfInBounds_toArray, List.set_cons_zero, List.set_cons_succ]
  refine wpJ_end ?_
  intro w5 hC hks hcls
  have HCw5 := Lib.hid hC
  have HLw5 := Lib.hid hcls
  clear hC hks hcls
  obtain ⟨k1, hk1, hpr⟩ := HLw5.out
  subst hk1
  have HPR := Lib.hid hpr
  clear hpr
  have hC2 := H1.out.1.grow HG2.out
  have hgS : ¬ (Value.slice A M cap).ownBlock = some g := fun e => (hC2.inS ci _ g HV.out.1 e).2 rfl
  have hW5 : Whole w5 g 54 vs.toArray := (HCw5.out.same g (hC2.lt g hC2.gS) hgS).trans hC2.blk
  have f0 := hW5.free ci
  obtain ⟨_, _, x0, _⟩ := HF.out w5 HCw5.out
  clear hC2 hgS hW5
  go_wp2_with (fail)
  refine bodyPost_end (results_none rfl _ _ _) rfl ?_
  have hC2 := H1.out.1.grow HG2.out
  have ho5 : OwnP w5 0 (.slice A1 (M + 1) c1) (l ++ [⟨p0, p1, p2, p3, p4⟩]) := by unfold OwnP; rw [HPR.out.len]; exact HPR.out.own
  obtain ⟨k1, k2⟩ := hC2.stored HV.out.2.1 HV.out.1 HCw5.out ho5 HPR.out.from_
  refine ⟨rfl, (Spares.grows HG2.out).trans k2, _, k1.wider (fun k hk => hk.imp_right fun h => ⟨Nat.le_trans HG2.out.size h.1, h.2⟩) ?_⟩
  rintro k (hk | hk)
  · exact k1.lt k (.inl hk)
  · exact hk.2
end Go.Proofs.Ytadgbobemmfjoaa
