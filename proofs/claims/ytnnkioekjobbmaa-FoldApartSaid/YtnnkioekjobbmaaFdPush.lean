/-
  Len, Push and Pop of fold's heap; what its methods are through the interface.
-/
import Derived.Test.YtnnkioekjobbmaaFdLess
namespace Go.Proofs.Ytnnkioekjobbmaa
open Go.RowKit
set_option linter.unusedVariables false
set_option linter.unusedSimpArgs false
attribute [local irreducible] wpF

theorem assertE (b : Nat) (w : World) : (Instr.typeAssert (.iface 51 (.pointer (some ⟨b, 0, none⟩))) 20 51 false).run Try.prog w = .ok (.pointer (some ⟨b, 0, none⟩)) w := by kernel_rfl
theorem len_heap (A : Option Addr) (n c : Nat) (w : World) : Calls Try.prog 23 #[.slice A n c] w fun e w' => e = .returned (.int .i64 (n : Int)) ∧ w' = w := by
  go_enter Try.func23, Try.ntmps23
  go_wp2_with (fail)
  go_ret
  exact ⟨rfl, rfl⟩
section
variable {own : Nat → Prop} {P : Program} {ops : Array Oper} {W : World} {Q : Act → World → Prop} {o : Oper} {rest : List Oper} {js : List (Job Grows (Spares own))} {ks : Known} {C : World → Prop} {a : Act}
/-- An operation that writes, and looks at what is known. -/
theorem j_clsE {α : Type} {x0 : α} {val : α → Value} {C' : α → World → Prop} {hC' : ∀ x w w', C' x w → Grows w w' → C' x w'} (hw : Region.wanted o (yielded ops a.tmps) = true)
    (h1 : ∀ w, Spares own W w → C w → ks.for (o.looksAt ops) w → ∃ x w', (execOp a.eval o).run P w = .ok (.value (val x)) w' ∧ Spares own w w' ∧ C' x w') (h2 : ∀ x, wpJ P ops W Q rest js ks (C' x) (a.put o.dst (val x))) :
    wpJ P ops W Q (o :: rest) (clsJob own α x0 val C' hC' :: js) ks C a := by
  unfold wpJ jStep
  rw [if_pos hw]
  refine ⟨fun w hW hk hC => ?_, fun x => wpJ_more _ _ ks _ _ _ (fun k hk => List.mem_cons_of_mem _ hk) (h2 x)⟩
  obtain ⟨x, w', hr, hs, hc⟩ := h1 w hW (hC rfl) hk
  rw [hr]
  exact ⟨x, rfl, trivial, fun _ => ⟨hs, hc⟩, fun h => by cases h⟩
end
theorem exec_appE {P : Program} {o : Oper} {a : Act} {w w' : World} {s x : Operand} {t u : TypeId} {v1 v2 v : Value} (ho : o.op = .call { callee := .builtin .append, args := #[s, x], argTypes := #[t, u] }) (hs : a.eval s = v1) (hx : a.eval x = v2)
    (hrun : (Builtin.append_ #[t, u] o.type #[v1, v2]).run P w = .ok v w') : (execOp a.eval o).run P w = .ok (.value v) w' := by
  unfold execOp
  simp only [ho, resolve, invoke, builtin, Sem.run_bind, Sem.run_pure, Result.andThen_ok, List.map_toArray, List.map_cons, List.map_nil, hs, hx, hrun]
/-- 'append(s, x)' of one list, to a heap. -/
theorem run_append_el {w : World} {ty base : Nat} {A : Option Addr} {n c : Nat} {l : List El} (hown : w.ownsRow base 51 1 (.slice A n c) n (l.flatMap elE))
    {g t0 xb : Nat} (hw : Whole w g t0 #[.pointer (some ⟨xb, 0, none⟩)]) (x : El) (hx : x.blk = xb) (hn : n < 1000000) (hbase : base ≤ w.heap.size) :
    ∃ A' c' w', (Builtin.append_ #[49, 49] ty #[.slice A n c, .slice (some ⟨g, 0, none⟩) 1 1]).run Try.prog w = .ok (.slice A' (n + 1) c') w' ∧ w'.ownsRow base 51 1 (.slice A' (n + 1) c') (n + 1) ((l ++ [x]).flatMap elE) ∧ w.grownBy w' (Value.slice A n c).ownBlock ∧
      ((Value.slice A' (n + 1) c').ownBlock = (Value.slice A n c).ownBlock ∨ (Value.slice A' (n + 1) c').ownBlock = some w.heap.size) := by
  subst hx
  obtain ⟨i0, hi0, hz0, hz1, hz2⟩ := info_of infoEl
  have hcell : ∀ (j : Nat) (u : Value), (elE x)[j]? = some u → w.cell? ((⟨g, 0, none⟩ : Addr).add j) = some u := fun j u hj => by
    rw [show (⟨g, 0, none⟩ : Addr).add j = ⟨g, j, none⟩ by unfold Addr.add; split <;> simp_all, hw.cell j]
    simpa [elE, elV] using hj
  obtain ⟨v', w', hr, h2, h3, _, h5⟩ := run_append_own_at (P := Try.prog) (w := w) base 49 ty 51 i0 (.pointer none) 1 8 Try.underlying49 hi0 hz0 hz1 hz2 rfl (by omega) (.slice A n c) n (l.flatMap elE) hown ⟨g, 0, none⟩ 1 1 (elE x) rfl hcell (elE_one x) (by unfold maxLen; omega) (by omega) hbase
  obtain ⟨A', c', rfl⟩ := slice_ownP h2
  exact ⟨A', c', w', hr, by rw [flat_snoc]; exact h2, h3, h5⟩
/-- What a Push stands on. -/
structure PushH (W0 w : World) (h : Nat) (l : List El) (K : Nat → Prop) (x : El) (A : Option Addr) (n c : Nat) : Prop where
  ow : w.ownsRow W0.heap.size 51 1 (.slice A n c) n (l.flatMap elE)
  ap : (Value.slice A n c).ownBlock ≠ some h
  els : ∀ y ∈ l, ElIn W0 w y
  far : ∀ y ∈ l, y.blk ≠ h ∧ (Value.slice A n c).ownBlock ≠ some y.blk
  good : GoodE (l ++ [x])
  lt : n < 1000000
  base : W0.heap.size ≤ w.heap.size
  old : Grows W0 w
  k1 : K h ∧ h ≠ x.blk
  k2 : ∀ k, (Value.slice A n c).ownBlock = some k → K k ∧ k ≠ x.blk
  k3 : ∀ y ∈ l, K y.blk ∧ y.blk ≠ x.blk
  fresh : ∀ k, w.heap.size ≤ k → K k
  lo : ∀ k, K k → W0.heap.size ≤ k
  x1 : ElIn W0 w x
  x2 : K x.blk
set_option maxRecDepth 100000 in
set_option maxHeartbeats 4000000 in
theorem push_heap {W0 : World} {h : Nat} {l : List El} {K : Nat → Prop} {w : World} (x : El) (hh : HpK W0 w h l (fun k => K k ∧ k ≠ x.blk)) (hK : ∀ k, w.heap.size ≤ k → K k) (hlo : ∀ k, K k → W0.heap.size ≤ k) (hx : ElIn W0 w x) (hxk : K x.blk) (hg : GoodE (l ++ [x])) (hl : l.length < 1000000) :
    Calls Try.prog 48 #[.pointer (some ⟨h, 0, none⟩), .iface 51 (elV x)] w fun e w' => e = .returned (.tuple #[]) ∧ HpK W0 w' h (l ++ [x]) K ∧ Spares K w w' := by
  obtain ⟨A, c, hp, hk1, hk2, hk3⟩ := hh
  have HB := Lib.hid (show Whole w h 49 #[.slice A l.length c] from hp.box)
  have HX := Lib.hid (show PushH W0 w h l K x A l.length c from ⟨hp.own, hp.apart, hp.els, hp.far, hg, hl, hp.old.size, hp.old, hk1, hk2, hk3, hK, hlo, hx, hxk⟩)
  obtain ⟨n, hn⟩ : ∃ n, l.length = n := ⟨_, rfl⟩
  rw [hn] at HB HX
  have HN := Lib.hid hn
  obtain ⟨xb, hxb⟩ : ∃ b, x.blk = b := ⟨_, rfl⟩
  have HXB := Lib.hid hxb
  have HTA := Lib.hid (fun w => assertE xb w)
  unfold elV
  rw [hxb]
  clear hp hk1 hk2 hk3 hK hlo hx hxk hg hl hn hxb
  go_enter Try.func48, Try.ntmps48
  refine wp_region_jobs (G := Grows) (E := Spares (fun k => (Value.slice A n c).ownBlock = some k)) 8 [valJob (fun k => (Value.slice A n c).ownBlock = some k) (.pointer (some ⟨h, 0, none⟩)), valJob (fun k => (Value.slice A n c).ownBlock = some k) (.pointer (some ⟨h, 0, none⟩)), valJob (fun k => (Value.slice A n c).ownBlock = some k) (.pointer (some ⟨h, 0, none⟩)), valJob (fun k => (Value.slice A n c).ownBlock = some k) (.slice A n c), valJob (fun k => (Value.slice A n c).ownBlock = some k) (.iface 51 (.pointer (some ⟨xb, 0, none⟩))), valJob (fun k => (Value.slice A n c).ownBlock = some k) (.pointer (some ⟨xb, 0, none⟩)), blkJob (fun k => (Value.slice A n c).ownBlock = some k) (51) (#[.pointer (some ⟨xb, 0, none⟩)]) 1, clsJob (fun k => (Value.slice A n c).ownBlock = some k) (Option Addr × Nat) (none, 0) (fun p => .slice p.1 (n + 1) p.2) (fun p w' => w'.ownsRow W0.heap.size 51 1 (.slice p.1 (n + 1) p.2) (n + 1) ((l ++ [x]).flatMap elE) ∧ ((Value.slice p.1 (n + 1) p.2).ownBlock = (Value.slice A n c).ownBlock ∨ ∃ g, (Value.slice p.1 (n + 1) p.2).ownBlock = some g ∧ w.heap.size ≤ g)) (fun _ _ _ h hg => ⟨owned_grow h.1 hg, h.2⟩)] [(false, false), (false, false), (false, false), (false, false), (false, false), (false, false), (false, false), (true, true)] (fun w' => w'.ownsRow W0.heap.size 51 1 (.slice A n c) n (l.flatMap elE)) rfl mixed (by kernel_rfl) (fun _ _ => Spares.grows) (fun _ _ _ => Spares.trans) (spares_drew _ _) (owned_grow HX.out.ow (grows_drew w)) (fun _ _ h hg => owned_grow h hg) ?_
  simp only [List.take_succ_cons, List.take_zero, List.drop_succ_cons, List.drop_zero]
  refine j_val (.pointer (some ⟨h, 0, none⟩)) (by rfl) ?_ ?_
  · intro w' hC; clear hC; go_simp
  simp only [Act.put, List.setIfInBounds_toArray, List.set_cons_zero, List.set_cons_succ]
  refine j_val (.pointer (some ⟨h, 0, none⟩)) (by rfl) ?_ ?_
  · intro w' hC; clear hC; go_simp
  simp only [Act.put, List.setIfInBounds_toArray, List.set_cons_zero, List.set_cons_succ]
  refine j_val (.pointer (some ⟨h, 0, none⟩)) (by rfl) ?_ ?_
  · intro w' hC; clear hC; go_simp
  simp only [Act.put, List.setIfInBounds_toArray, List.set_cons_zero, List.set_cons_succ]
  refine j_val (.slice A n c) (by rfl) ?_ ?_
  · intro w' hC; have z := (show Whole w' h 49 #[.slice A n c] from (hC.same h HB.out.lt fun e => HX.out.ap e).trans HB.out).cell 0; simp only [List.getElem?_toArray, List.getElem?_cons_zero, List.getElem?_cons_succ] at z; clear hC; go_simp
  simp only [Act.put, List.setIfInBounds_toArray, List.set_cons_zero, List.set_cons_succ]
  refine j_val (.iface 51 (.pointer (some ⟨xb, 0, none⟩))) (by rfl) ?_ ?_
  · intro w' hC; clear hC; go_simp
  simp only [Act.put, List.setIfInBounds_toArray, List.set_cons_zero, List.set_cons_succ]
  refine j_val (.pointer (some ⟨xb, 0, none⟩)) (by rfl) ?_ ?_
  · intro w' hC; have k0 := HTA.out w'; clear hC; go_simp
  simp only [Act.put, List.setIfInBounds_toArray, List.set_cons_zero, List.set_cons_succ]
  refine j_made (51) (#[.pointer (some ⟨xb, 0, none⟩)]) 1 (fun k e => (owned_lt3 HX.out.ow e).2) (by rfl) ?_ ?_
  · intro w' hC; clear hC; go_simp
  intro g1
  simp only [Act.put, List.setIfInBounds_toArray, List.set_cons_zero, List.set_cons_succ]
  refine j_clsE (by rfl) (fun w' hC hcls hks => ?_) ?_
  · obtain ⟨A', c', w2, hr, ho2, hg2, hd2⟩ := run_append_el hcls (Known.get hks 0 rfl rfl).1 x HXB.out HX.out.lt (Nat.le_trans HX.out.base hC.size)
    exact ⟨(A', c'), w2, exec_appE rfl rfl rfl hr, (Spares.refl _ _).grown hg2 (fun k e => e), ho2, hd2.elim .inl fun e => .inr ⟨_, e, hC.size⟩⟩
  rintro ⟨A5, c5⟩
  simp only [Act.put, List.setIfInBounds_toArray, List.set_cons_zero, List.set_cons_succ]
  refine wpJ_end ?_
  intro w1 hC hks hcls
  have HCw1 := Lib.hid hC
  have HLw1 := Lib.hid hcls
  clear hC hks hcls
  have hbw : Whole w1 h 49 #[.slice A n c] := (HCw1.out.same h HB.out.lt fun e => HX.out.ap e).trans HB.out
  have z0 := hbw.cell 0
  have z1 := hbw.free 0
  simp only [List.getElem?_toArray, List.getElem?_cons_zero, List.getElem?_cons_succ] at z0
  have H5 := Lib.hid hbw
  clear hbw
  go_wp2_with (fail)
  go_end0
  obtain ⟨ho5, hd5⟩ := HLw1.out
  have hbw := H5.out
  have HH := HX.out
  have hhl : h < w.heap.size := HB.out.lt
  have hnew : ∀ k, (Value.slice A5 (n + 1) c5).ownBlock = some k → K k ∧ k ≠ h ∧ ∀ y, y = x ∨ y ∈ l → k ≠ y.blk := by
    intro k hk
    rcases hd5 with e | ⟨g, e, hg⟩
    · rw [e] at hk
      refine ⟨(HH.k2 k hk).1, fun e2 => HH.ap (e2 ▸ hk), fun y hy => ?_⟩
      rcases hy with rfl | hy
      · exact (HH.k2 k hk).2
      · exact fun e2 => (HH.far y hy).2 (e2 ▸ hk)
    · rw [e] at hk
      injection hk with hk
      refine ⟨HH.fresh k (by omega), by omega, fun y hy => ?_⟩
      rcases hy with rfl | hy
      · have := HH.x1.blk.lt; omega
      · have := (HH.els y hy).blk.lt; omega
  have hs : Spares K w w1 := HCw1.out.wider fun k _ hk => (HH.k2 k hk).1
  have hlen : (l ++ [x]).length = n + 1 := by rw [List.length_append, HN.out]; rfl
  have hs2 := hs.setCell (p := ⟨h, 0, none⟩) HH.k1.1 (.slice A5 (n + 1) c5)
  have hoth : ∀ k, k < w.heap.size → k ≠ h → (Value.slice A n c).ownBlock ≠ some k → (w1.setCell ⟨h, 0, none⟩ (.slice A5 (n + 1) c5)).heap[k]? = w.heap[k]? := fun k h1 h2 h3 => (Below.heap_setCell _ _ _ _ fun e => h2 e).trans (HCw1.out.same k h1 h3)
  have hfar : ∀ y, y = x ∨ y ∈ l → y.blk ≠ h ∧ (Value.slice A n c).ownBlock ≠ some y.blk ∧ K y.blk ∧ ElIn W0 w y := fun y hy => by
    rcases hy with rfl | hy
    · exact ⟨fun e => HH.k1.2 e.symm, fun e => (HH.k2 _ e).2 rfl, HH.x2, HH.x1⟩
    · exact ⟨(HH.far y hy).1, (HH.far y hy).2, (HH.k3 y hy).1, HH.els y hy⟩
  have hmem : ∀ y, y ∈ l ++ [x] → y = x ∨ y ∈ l := fun y hy => by
    rcases List.mem_append.1 hy with hy | hy
    · exact .inr hy
    · exact .inl (List.mem_singleton.1 hy)
  refine ⟨rfl, ⟨A5, c5, ⟨?_, ?_, ?_, ?_, ?_, HH.good, ?_, ?_⟩, HH.k1.1, ?_, ?_⟩, hs2⟩
  · rw [hlen]
    exact hbw.put 0 _
  · rw [hlen]
    exact owned_same3 ho5 fun k hk => Below.heap_setCell _ _ _ _ fun e => (hnew k hk).2.1 e
  · rw [hlen]
    exact fun e => (hnew h e).2.1 rfl
  · intro y hy
    obtain ⟨q1, q2, q3, q4⟩ := hfar y (hmem y hy)
    exact q4.same (hoth _ q4.blk.lt q1 q2)
  · intro y hy
    rw [hlen]
    exact ⟨(hfar y (hmem y hy)).1, fun e => (hnew _ e).2.2 y (hmem y hy) rfl⟩
  · have := HH.lt; omega
  · exact ((Spares.grows (own := K) HH.old).trans hs2).below (Nat.le_refl _) fun k hk hK => by have := HH.lo k hK; omega
  · rw [hlen]
    exact fun k hk => (hnew k hk).1
  · exact fun y hy => (hfar y (hmem y hy)).2.2.1
theorem own_lessE {w : World} {base : Nat} {A : Option Addr} {n c : Nat} {l : List El} {x : El} (h : w.ownsRow base 51 1 (.slice A (n + 1) c) (n + 1) ((l ++ [x]).flatMap elE)) : w.ownsRow base 51 1 (.slice A n c) n (l.flatMap elE) := by
  have h1 := h.1
  rw [flat_len1, List.length_append, List.length_singleton] at h1
  rcases h.2 with ⟨e, _⟩ | ⟨g, cap, cur, e, hb, hg, hn, hm, hs, ht⟩
  · injection e with _ e _; omega
  · injection e with e1 e2 e3
    subst e1 e3
    refine ⟨by rw [flat_len1]; omega, .inr ⟨g, c, cur, rfl, hb, hg, by omega, hm, hs, ?_⟩⟩
    rw [flat_snoc] at ht
    have := congrArg (List.take (n * 1)) ht
    rw [List.take_take, List.take_append_of_le_length (by rw [flat_len1]; omega), show min (n * 1) ((n + 1) * 1) = n * 1 by omega, List.take_of_length_le (l := l.flatMap elE) (by rw [flat_len1]; omega)] at this
    exact this
set_option maxRecDepth 100000 in
set_option maxHeartbeats 4000000 in
theorem pop_heap {W0 : World} {h : Nat} {m : List El} {x : El} {K : Nat → Prop} {w : World} (hh : HpK W0 w h (m ++ [x]) K) (hlo : ∀ k, K k → W0.heap.size ≤ k) :
    Calls Try.prog 47 #[.pointer (some ⟨h, 0, none⟩)] w fun e w' => e = .returned (.iface 51 (elV x)) ∧ HpK W0 w' h m (fun k => K k ∧ k ≠ x.blk) ∧ ElIn W0 w' x ∧ K x.blk ∧ Spares K w w' := by
  obtain ⟨A, c, hp, hk1, hk2, hk3⟩ := hh
  have hlen : (m ++ [x]).length = m.length + 1 := by rw [List.length_append]; rfl
  have hb := hp.box
  have ho := hp.own
  have hfew := hp.few
  rw [hlen] at hb ho hk2 hfew
  obtain ⟨n, hn⟩ : ∃ n, m.length = n := ⟨_, rfl⟩
  rw [hn] at hb ho hk2 hfew
  have hu : Rs w A (n + 1) c elE 1 (m ++ [x]) := Rs.owned elL (by rw [hlen, hn]) ho
  obtain ⟨g, cap, hv, hbg, hlt⟩ := ho.form (by omega)
  injection hv with hA _ hc
  subst hA hc
  have hcap := hu.cap
  have z0 := hb.cell
  have z1 : w.frozen? ⟨h, 0, none⟩ = false := Whole.free (show Whole w h 49 #[_] from hb) 0
  have c0 := cell1 ho (i := n) (x := x) (by rw [List.getElem?_append_right (by omega), hn, Nat.sub_self]; rfl)
  obtain ⟨xb, hxb⟩ : ∃ b, x.blk = b := ⟨_, rfl⟩
  unfold elV at c0 ⊢
  rw [hxb] at c0 ⊢
  have hxm : x ∈ m ++ [x] := List.mem_append_right _ (List.mem_singleton.2 rfl)
  have HX := Lib.hid (And.intro hp (And.intro hb (And.intro ho (And.intro hk1 (And.intro hk2 (And.intro hk3 (And.intro hn (And.intro hxb (And.intro hxm (And.intro hlo hfew))))))))))
  obtain ⟨W2, hW2⟩ : ∃ W2, w.setCell ⟨h, 0, none⟩ (.slice (some ⟨g, 0, none⟩) n c) = W2 := ⟨_, rfl⟩
  have hs2 : Spares (fun k => k = h) w W2 := by rw [← hW2]; exact Spares.setCell (own := fun k => k = h) (p := ⟨h, 0, none⟩) (Spares.refl _ _) rfl _
  have hb2 : Boxed W2 h 49 (.slice (some ⟨g, 0, none⟩) n c) := by rw [← hW2]; exact Whole.put (show Whole w h 49 #[_] from hb) 0 _
  have HY := Lib.hid (And.intro hs2 hb2)
  have k0 : (0 : Int) ≤ (n : Int) := by omega
  have k1 : (n : Int) < ((n + 1 : Nat) : Int) := by omega
  have k2 : (n : Int) ≤ (c : Int) := by omega
  have k3 : ((n + 1 : Nat) : Int) - 1 = (n : Int) := by omega
  obtain ⟨k4, k5⟩ := wrapI (x := ((n + 1 : Nat) : Int) - 1) (by omega) (by omega)
  rw [k3] at k4 k5
  clear hp hb ho hfew hk1 hk2 hk3 hlen hu hlt hbg hs2 hb2 hn hxb hxm hlo
  go_enter Try.func47, Try.ntmps47
  go_wp2_with (first | rw [hW2] | fail)
  go_ret
  obtain ⟨hp, hb, ho, hk1, hk2, hk3, hn, hxb, hxm, hlo, hfew⟩ := HX.out
  obtain ⟨hs2, hb2⟩ := HY.out
  have hsp : Spares K w W2 := hs2.wider fun k _ e => e ▸ hk1
  have hap := hp.apart
  have hfar := hp.far
  have hgood := hp.good
  have hnd : ∀ y ∈ m, y.blk ≠ x.blk := fun y hy => ((List.pairwise_append.1 hgood.apart).2.2 y hy x (List.mem_singleton.2 rfl)).2
  subst hxb
  refine ⟨rfl, ⟨some ⟨g, 0, none⟩, c, ⟨by rw [hn]; exact hb2, ?_, fun e => hap e, fun y hy => (hp.els y (List.mem_append_left _ hy)).same (hs2.same _ (hp.els y (List.mem_append_left _ hy)).blk.lt (hfar y (List.mem_append_left _ hy)).1), fun y hy => hfar y (List.mem_append_left _ hy), ⟨fun y hy => hgood.each y (List.mem_append_left _ hy), (List.pairwise_append.1 hgood.apart).1⟩, by omega, ?_⟩, ⟨hk1, fun e => (hfar x hxm).1 e.symm⟩, fun k e => ⟨hk2 k e, fun e2 => (hfar x hxm).2 (e2 ▸ e)⟩, fun y hy => ⟨hk3 y (List.mem_append_left _ hy), hnd y hy⟩⟩, (hp.els x hxm).same (hs2.same _ (hp.els x hxm).blk.lt (hfar x hxm).1), hk3 x hxm, hsp⟩
  · rw [hn]
    exact owned_same3 (own_lessE ho) fun k e => hs2.same k (owned_lt3 ho (show (Value.slice (some ⟨g, 0, none⟩) (n + 1) c).ownBlock = some k from e)).2 fun e2 => hap (e2 ▸ e)
  · exact ((Spares.grows (own := K) hp.old).trans hsp).below (Nat.le_refl _) fun k hk hK => by have := hlo k hK; omega

/-! Through the interface. -/
theorem meth_Push (w : World) (h : Nat) : (method 183 47 (.pointer (some ⟨h, 0, none⟩)) "Push").run Try.prog w = .ok (48, .pointer (some ⟨h, 0, none⟩)) w := by kernel_rfl
theorem meth_Pop (w : World) (h : Nat) : (method 183 47 (.pointer (some ⟨h, 0, none⟩)) "Pop").run Try.prog w = .ok (47, .pointer (some ⟨h, 0, none⟩)) w := by kernel_rfl
theorem load_slice {w : World} {h : Nat} {v : Value} (hb : Boxed w h 49 v) : (loadVar 49 ⟨h, 0, none⟩).run Try.prog w = .ok v w := by
  have c0 := hb.cell
  have e : (loadVar 49 ⟨h, 0, none⟩).run Try.prog w = (load ⟨h, 0, none⟩).run Try.prog w := by kernel_rfl
  rw [e]
  clear e
  go_simp
theorem chk_ok (ts : Array TypeId) (ty : TypeId) (a : Addr) (x y : String) (w : World) : (Builtin.ssaWrapNilChk_ ts ty #[.pointer (some a), strVal x, strVal y]).run Try.prog w = .ok (.pointer (some a)) w := rfl
theorem method_by {w : World} {h f : Nat} {v : Value} {name : String} (hm : ((Try.prog.info? 47).bind fun i => i.methods.find? (·.name == name)).map (fun m => (m.path.toList, m.func)) = some ([], some (f, false))) (hb : Boxed w h 49 v) :
    (method 183 47 (.pointer (some ⟨h, 0, none⟩)) name).run Try.prog w = .ok (f, v) w := by
  have hl := load_slice hb
  cases hi : Try.prog.info? 47 with
  | none => rw [hi] at hm; cases hm
  | some i =>
    rw [hi] at hm
    cases hf : i.methods.find? (·.name == name) with
    | none => simp only [Option.bind_some, hf] at hm; cases hm
    | some m =>
      simp only [Option.bind_some, hf, Option.map_some, Option.some.injEq, Prod.mk.injEq] at hm
      have hu := run_underlying (P := Try.prog) (w := w) Try.underlying47
      have hp : m.path = #[] := by simpa using hm.1
      unfold method
      simp [typeInfo, hi, hf, hm.1, hm.2, follow, receiverAt, hu, Place.get, hp, hl, chk_ok, asAddr, Result.andThen]
theorem meth_Len {w : World} {h : Nat} {v : Value} (hb : Boxed w h 49 v) : (method 183 47 (.pointer (some ⟨h, 0, none⟩)) "Len").run Try.prog w = .ok (23, v) w := method_by (by kernel_rfl) hb
theorem meth_Less {w : World} {h : Nat} {v : Value} (hb : Boxed w h 49 v) : (method 183 47 (.pointer (some ⟨h, 0, none⟩)) "Less").run Try.prog w = .ok (46, v) w := method_by (by kernel_rfl) hb
theorem meth_Swap {w : World} {h : Nat} {v : Value} (hb : Boxed w h 49 v) : (method 183 47 (.pointer (some ⟨h, 0, none⟩)) "Swap").run Try.prog w = .ok (49, v) w := method_by (by kernel_rfl) hb
end Go.Proofs.Ytnnkioekjobbmaa
