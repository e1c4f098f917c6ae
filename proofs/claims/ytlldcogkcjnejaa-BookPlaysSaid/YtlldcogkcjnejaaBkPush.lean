/-
  Len, Push and Pop of book's heap.
-/
import Derived.Test.YtlldcogkcjnejaaBkSwap
namespace Go.Proofs.Ytlldcogkcjnejaa
open Go.RowKit Go.Shelf Go.Maps Go.Sort
set_option linter.unusedVariables false
set_option linter.unusedSimpArgs false
attribute [local irreducible] wpF

/-- The heap in memory: the block of its slice, and its row; all of it lies in K. -/
structure Hp (w : World) (base h : Nat) (l : List Us) (A : Option Addr) (c : Nat) : Prop where
  box : Boxed w h 65 (.slice A l.length c)
  own : w.ownsRow base 34 3 (.slice A l.length c) l.length (l.flatMap usE)
  apart : (Value.slice A l.length c).ownBlock ≠ some h
  fit : ∀ x ∈ l, FitU x
  few : l.length ≤ 1000000
  base : base ≤ w.heap.size
def HpK (w : World) (base h : Nat) (l : List Us) (K : Nat → Prop) : Prop := ∃ A c, Hp w base h l A c ∧ K h ∧ ∀ k, (Value.slice A l.length c).ownBlock = some k → K k
theorem HpK.off {w w' : World} {base h : Nat} {l : List Us} {K own : Nat → Prop} (hk : HpK w base h l K) (hs : Spares own w w') (hn : ∀ k, k < w.heap.size → K k → ¬ own k) : HpK w' base h l K := by
  obtain ⟨A, c, ⟨h1, h2, h3, h4, h5, h6⟩, h7, h8⟩ := hk
  refine ⟨A, c, ⟨(hs.same _ h1.lt (hn _ h1.lt h7)).trans h1, owned_same3 h2 fun k e => hs.same _ (owned_lt3 h2 e).2 (hn _ (owned_lt3 h2 e).2 (h8 k e)), h3, h4, h5, Nat.le_trans h6 hs.size⟩, h7, h8⟩
theorem HpK.grow {w w' : World} {base h : Nat} {l : List Us} {K : Nat → Prop} (hk : HpK w base h l K) (hg : Grows w w') : HpK w' base h l K := by
  obtain ⟨A, c, ⟨h1, h2, h3, h4, h5, h6⟩, h7, h8⟩ := hk
  exact ⟨A, c, ⟨(hg.block _ h1.lt).trans h1, owned_grow h2 hg, h3, h4, h5, Nat.le_trans h6 hg.size⟩, h7, h8⟩
theorem assertU (a b c : Int) (w : World) : (Instr.typeAssert (.iface 34 (.agg #[.int .i64 a, .int .i64 b, .int .i64 c])) 20 34 false).run Try.prog w = .ok (.agg #[.int .i64 a, .int .i64 b, .int .i64 c]) w := by kernel_rfl
theorem len_heap (A : Option Addr) (n c : Nat) (w : World) : Calls Try.prog 36 #[.slice A n c] w fun e w' => e = .returned (.int .i64 (n : Int)) ∧ w' = w := by
  go_enter Try.func36, Try.ntmps36
  go_wp2_with (fail)
  go_ret
  exact ⟨rfl, rfl⟩
section
variable {own : Nat → Prop} {P : Program} {ops : Array Oper} {W : World} {Q : Act → World → Prop} {o : Oper} {rest : List Oper} {js : List (Job Grows (Spares own))} {ks : Known} {C : World → Prop} {a : Act}
/-- An operation that writes, and looks at what is known. -/
theorem j_clsk {α : Type} {x0 : α} {val : α → Value} {C' : α → World → Prop} {hC' : ∀ x w w', C' x w → Grows w w' → C' x w'} (hw : Region.wanted o (yielded ops a.tmps) = true)
    (h1 : ∀ w, Spares own W w → C w → ks.for (o.looksAt ops) w → ∃ x w', (execOp a.eval o).run P w = .ok (.value (val x)) w' ∧ Spares own w w' ∧ C' x w') (h2 : ∀ x, wpJ P ops W Q rest js ks (C' x) (a.put o.dst (val x))) :
    wpJ P ops W Q (o :: rest) (clsJob own α x0 val C' hC' :: js) ks C a := by
  unfold wpJ jStep
  rw [if_pos hw]
  refine ⟨fun w hW hk hC => ?_, fun x => wpJ_more _ _ ks _ _ _ (fun k hk => List.mem_cons_of_mem _ hk) (h2 x)⟩
  obtain ⟨x, w', hr, hs, hc⟩ := h1 w hW (hC rfl) hk
  rw [hr]
  exact ⟨x, rfl, trivial, fun _ => ⟨hs, hc⟩, fun h => by cases h⟩
end
theorem exec_app {P : Program} {o : Oper} {a : Act} {w w' : World} {s x : Operand} {t u : TypeId} {v1 v2 v : Value} (ho : o.op = .call { callee := .builtin .append, args := #[s, x], argTypes := #[t, u] }) (hs : a.eval s = v1) (hx : a.eval x = v2)
    (hrun : (Builtin.append_ #[t, u] o.type #[v1, v2]).run P w = .ok v w') : (execOp a.eval o).run P w = .ok (.value v) w' := by
  unfold execOp
  simp only [ho, resolve, invoke, builtin, Sem.run_bind, Sem.run_pure, Result.andThen_ok, List.map_toArray, List.map_cons, List.map_nil, hs, hx, hrun]
/-- 'append(s, x)' of one use, to a heap. -/
theorem run_append_use {w : World} {ty base : Nat} {A : Option Addr} {n c : Nat} {l : List Us} (hown : w.ownsRow base 34 3 (.slice A n c) n (l.flatMap usE))
    {g t0 : Nat} {cs : Array Value} (hw : Whole w g t0 cs) (x : Us) (hcs : cs = #[.int .i64 x.seg, .int .i64 x.all, .int .i64 x.live]) (hn : n < 1000000) (hbase : base ≤ w.heap.size) :
    ∃ A' c' w', (Builtin.append_ #[65, 65] ty #[.slice A n c, .slice (some ⟨g, 0, none⟩) 1 1]).run Try.prog w = .ok (.slice A' (n + 1) c') w' ∧ w'.ownsRow base 34 3 (.slice A' (n + 1) c') (n + 1) ((l ++ [x]).flatMap usE) ∧ w.grownBy w' (Value.slice A n c).ownBlock ∧
      ((Value.slice A' (n + 1) c').ownBlock = (Value.slice A n c).ownBlock ∨ (Value.slice A' (n + 1) c').ownBlock = some w.heap.size) := by
  subst hcs
  obtain ⟨i0, hi0, hz0, hz1, hz2⟩ := info_of infoUs
  obtain ⟨v', w', hr, h2, h3, _, h5⟩ := run_append_own_at (P := Try.prog) (w := w) base 65 ty 34 i0 (.agg #[.int .i64 0, .int .i64 0, .int .i64 0]) 3 24 Try.underlying65 hi0 hz0 hz1 hz2 rfl (by omega) (.slice A n c) n (l.flatMap usE) hown ⟨g, 0, none⟩ 1 1 (usE x) rfl (us_at hw) (usE_one x) (by unfold maxLen; omega) (by omega) hbase
  obtain ⟨A', c', rfl⟩ := slice_ownP h2
  exact ⟨A', c', w', hr, by rw [flat_snoc]; exact h2, h3, h5⟩
set_option maxRecDepth 100000 in
set_option maxHeartbeats 4000000 in
theorem push_heap {base h : Nat} {l : List Us} {K : Nat → Prop} {w : World} (hh : HpK w base h l K) (hK : ∀ k, w.heap.size ≤ k → K k) (x : Us) (hx : FitU x) (hl : l.length < 1000000) :
    Calls Try.prog 81 #[.pointer (some ⟨h, 0, none⟩), .iface 34 (usV x)] w fun e w' => e = .returned (.tuple #[]) ∧ HpK w' base h (l ++ [x]) K ∧ Spares K w w' := by
  obtain ⟨A, c, hp, hk1, hk2⟩ := hh
  obtain ⟨hb, ho, hap, hfit, hfew, hbase⟩ := hp
  have HB := Lib.hid (show Whole w h 65 #[.slice A l.length c] from hb)
  have HX := Lib.hid (And.intro ho (And.intro hap (And.intro hfit (And.intro hk1 (And.intro hk2 (And.intro hK (And.intro hx (And.intro hl hbase))))))))
  have HTA := Lib.hid (fun w => assertU x.seg x.all x.live w)
  obtain ⟨n, hn⟩ : ∃ n, l.length = n := ⟨_, rfl⟩
  rw [hn] at HB HX
  have HN := Lib.hid hn
  clear hb ho hap hfit hfew hk1 hk2 hK hx hl hbase hn
  obtain ⟨x0, x1, x2⟩ := x
  show Calls _ _ #[_, .iface _ (.agg #[.int .i64 x0, .int .i64 x1, .int .i64 x2])] _ _
  dsimp only at HTA
  go_enter Try.func81, Try.ntmps81
  refine wp_region_jobs (G := Grows) (E := Spares (fun k => (Value.slice A n c).ownBlock = some k)) 8 [valJob (fun k => (Value.slice A n c).ownBlock = some k) (.pointer (some ⟨h, 0, none⟩)), valJob (fun k => (Value.slice A n c).ownBlock = some k) (.pointer (some ⟨h, 0, none⟩)), valJob (fun k => (Value.slice A n c).ownBlock = some k) (.pointer (some ⟨h, 0, none⟩)), valJob (fun k => (Value.slice A n c).ownBlock = some k) (.slice A n c), valJob (fun k => (Value.slice A n c).ownBlock = some k) (.iface 34 (.agg #[.int .i64 x0, .int .i64 x1, .int .i64 x2])), valJob (fun k => (Value.slice A n c).ownBlock = some k) (.agg #[.int .i64 x0, .int .i64 x1, .int .i64 x2]), blkJob (fun k => (Value.slice A n c).ownBlock = some k) (34) (#[.int .i64 x0, .int .i64 x1, .int .i64 x2]) 1, clsJob (fun k => (Value.slice A n c).ownBlock = some k) (Option Addr × Nat) (none, 0) (fun p => .slice p.1 (n + 1) p.2) (fun p w' => w'.ownsRow base 34 3 (.slice p.1 (n + 1) p.2) (n + 1) ((l ++ [(⟨x0, x1, x2⟩ : Us)]).flatMap usE) ∧ ((Value.slice p.1 (n + 1) p.2).ownBlock = (Value.slice A n c).ownBlock ∨ ∃ g, (Value.slice p.1 (n + 1) p.2).ownBlock = some g ∧ w.heap.size ≤ g)) (fun _ _ _ h hg => ⟨owned_grow h.1 hg, h.2⟩)] [(false, false), (false, false), (false, false), (false, false), (false, false), (false, false), (false, false), (true, true)] (fun w' => w'.ownsRow base 34 3 (.slice A n c) n (l.flatMap usE)) rfl mixed (by kernel_rfl) (fun _ _ => Spares.grows) (fun _ _ _ => Spares.trans) (spares_drew _ _) (owned_grow HX.out.1 (grows_drew w)) (fun _ _ h hg => owned_grow h hg) ?_
  simp only [List.take_succ_cons, List.take_zero, List.drop_succ_cons, List.drop_zero]
  refine j_val (.pointer (some ⟨h, 0, none⟩)) (by rfl) ?_ ?_
  · intro w' hC; clear hC; go_simp
  simp only [Act.put, List.setIfInBounds_toArray, List.set_cons_zero, List.set_cons_succ]
  refine j_val (.pointer (some ⟨h, 0, none⟩)) (by rfl) ?_ ?_
  · intro w' hC; clear hC; go_simp
  simp only [Act.put, List.setIfInBounds_toArray, List.set_cons_zero, List.set_cons_succ]
  refine j_val (.pointer (some ⟨h, 0, none⟩)) (by rfl) ?_ ?_
  · intro w' hC; clear hC; go_simp
  simp only [Act.put, List.setIfInBounds_toArray, List.set_cons_zero, List.set_cons_succ]
  refine j_val (.slice A n c) (by rfl) ?_ ?_
  · intro w' hC; have z := (show Whole w' h 65 #[.slice A n c] from (hC.same h HB.out.lt fun e => HX.out.2.1 e).trans HB.out).cell 0; simp only [List.getElem?_toArray, List.getElem?_cons_zero, List.getElem?_cons_succ] at z; clear hC; go_simp
  simp only [Act.put, List.setIfInBounds_toArray, List.set_cons_zero, List.set_cons_succ]
  refine j_val (.iface 34 (.agg #[.int .i64 x0, .int .i64 x1, .int .i64 x2])) (by rfl) ?_ ?_
  · intro w' hC; clear hC; go_simp
  simp only [Act.put, List.setIfInBounds_toArray, List.set_cons_zero, List.set_cons_succ]
  refine j_val (.agg #[.int .i64 x0, .int .i64 x1, .int .i64 x2]) (by rfl) ?_ ?_
  · intro w' hC; have k0 := HTA.out w'; clear hC; go_simp
  simp only [Act.put, List.setIfInBounds_toArray, List.set_cons_zero, List.set_cons_succ]
  refine j_made (34) (#[.int .i64 x0, .int .i64 x1, .int .i64 x2]) 1 (fun k e => (owned_lt3 HX.out.1 e).2) (by rfl) ?_ ?_
  · intro w' hC; clear hC; go_simp
  intro g1
  simp only [Act.put, List.setIfInBounds_toArray, List.set_cons_zero, List.set_cons_succ]
  refine j_clsk (by rfl) (fun w' hC hcls hks => ?_) ?_
  · obtain ⟨A', c', w2, hr, ho2, hg2, hd2⟩ := run_append_use hcls (Known.get hks 0 rfl rfl).1 ⟨x0, x1, x2⟩ rfl HX.out.2.2.2.2.2.2.2.1 (Nat.le_trans HX.out.2.2.2.2.2.2.2.2 hC.size)
    exact ⟨(A', c'), w2, exec_app rfl rfl rfl hr, (Spares.refl _ _).grown hg2 (fun k e => e), ho2, hd2.elim .inl fun e => .inr ⟨_, e, hC.size⟩⟩
  rintro ⟨A5, c5⟩
  simp only [Act.put, List.setIfInBounds_toArray, List.set_cons_zero, List.set_cons_succ]
  refine wpJ_end ?_
  intro w1 hC hks hcls
  have HCw1 := Lib.hid hC
  have HLw1 := Lib.hid hcls
  clear hC hks hcls
  have hbw : Whole w1 h 65 #[.slice A n c] := (HCw1.out.same h HB.out.lt fun e => HX.out.2.1 e).trans HB.out
  have z0 := hbw.cell 0
  have z1 := hbw.free 0
  simp only [List.getElem?_toArray, List.getElem?_cons_zero, List.getElem?_cons_succ] at z0
  have H5 := Lib.hid hbw
  clear hbw
  go_wp2_with (fail)
  go_end0
  obtain ⟨ho5, hd5⟩ := HLw1.out
  have hbw := H5.out
  have hhl : h < w.heap.size := HB.out.lt
  have hnew : ∀ k, (Value.slice A5 (n + 1) c5).ownBlock = some k → K k ∧ k ≠ h := by
    intro k hk
    rcases hd5 with e | ⟨g, e, hg⟩
    · rw [e] at hk
      exact ⟨HX.out.2.2.2.2.1 k hk, fun e2 => HX.out.2.1 (e2 ▸ hk)⟩
    · rw [e] at hk
      injection hk with hk
      exact ⟨HX.out.2.2.2.2.2.1 k (by omega), by omega⟩
  have hs : Spares K w w1 := HCw1.out.wider fun k _ hk => HX.out.2.2.2.2.1 k hk
  have hlen : (l ++ [(⟨x0, x1, x2⟩ : Us)]).length = n + 1 := by rw [List.length_append, HN.out]; rfl
  have hs2 := hs.setCell (p := ⟨h, 0, none⟩) HX.out.2.2.2.1 (.slice A5 (n + 1) c5)
  refine ⟨rfl, ⟨A5, c5, ⟨?_, ?_, ?_, ?_, ?_, ?_⟩, HX.out.2.2.2.1, ?_⟩, hs2⟩
  · rw [hlen]
    exact hbw.put 0 _
  · rw [hlen]
    exact owned_same3 ho5 fun k hk => Below.heap_setCell _ _ _ _ fun e => (hnew k hk).2 e
  · rw [hlen]
    exact fun e => (hnew h e).2 rfl
  · intro y hy
    rcases List.mem_append.1 hy with hy | hy
    · exact HX.out.2.2.1 y hy
    · rw [List.mem_singleton.1 hy]; exact HX.out.2.2.2.2.2.2.1
  · have := HX.out.2.2.2.2.2.2.2.1; omega
  · exact Nat.le_trans HX.out.2.2.2.2.2.2.2.2 hs2.size
  · rw [hlen]
    exact fun k hk => (hnew k hk).1
end Go.Proofs.Ytlldcogkcjnejaa
