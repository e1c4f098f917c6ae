import Derived.Test.YtlldcogkcjnejaaGreatMG11
import Derived.Test.YtlldcogkcjnejaaGreatMG04
set_option linter.unusedVariables false
namespace Go.Proofs.YtlldcogkcjnejaaGreat
open Go.Lib (hid)
open Go.RowKit
theorem infoOp : (Tryz.prog.info? 117).map (fun i => (i.zero, i.size, i.bytes)) = some (some (.agg #[.int .i64 0, .string ⟨#[]⟩, .string ⟨#[]⟩, .int .i64 0]), 4, 48) := by kernel_rfl
theorem Zqz (c : Ch) : ∀ u ∈ chC c, u.oneCell' = true := by
 intro u hu
 cases c <;> simp only [chC, List.mem_cons, List.not_mem_nil, or_false] at hu <;> rcases hu with rfl | rfl | rfl | rfl <;> simp [Value.oneCell']
def Zqj (w0 : World) (v0 : Value) (l : Dir) : Fact Grows := ⟨Value, .slice none 0 0, fun v => v, fun v w => w.ownsRow 0 84 2 v l.length (l.flatMap enC) ∧ ∀ k, v.ownBlock = some k → v0.ownBlock = some k ∨ w0.heap.size ≤ k, fun _ _ _ h g => ⟨Zd h.1 g, h.2⟩⟩
theorem f_do {P : Program} {ops : Array Oper} {W : World} {Q : Act → World → Prop} {o : Oper} {rest : List Oper} {fs : List (Fact Grows)} {ks : Known} {a : Act} (w0 : World) (v0 : Value) (l : Dir) (f : FuncId) (args : Array Value) (hw : Region.wanted o (yielded ops a.tmps) = true) (h1 : ∀ w, Grows W w → (execOp a.eval o).run P w = .ok (.enter f args) w)
 (hB : w0.heap.size ≤ W.heap.size) (hc : ∀ w, Grows W w → ks.for (o.looksAt ops) w → Calls P f args w fun e w' => RDoTo w v0 l e w')
 (h2 : ∀ v, wpF P ops Grows W Q rest fs ((o.dst, fun w => w.ownsRow 0 84 2 v l.length (l.flatMap enC) ∧ ∀ k, v.ownBlock = some k → v0.ownBlock = some k ∨ w0.heap.size ≤ k) :: ks) (a.put o.dst v)) :
 wpF P ops Grows W Q (o :: rest) (Zqj w0 v0 l :: fs) ks a := by
 unfold wpF fStep
 rw [if_pos hw]
 refine ⟨fun w hW hk => ?_, fun x => h2 x⟩
 unfold gives
 rw [h1 w hW]
 refine (hc w hW hk).mono ?_
 rintro e w' ⟨v, rfl, hr, hb, hg⟩
 exact ⟨hg, v, rfl, hr, fun k hk => (hb k hk).imp id fun h => Nat.le_trans hB (Nat.le_trans hW.size h)⟩
def Zls (own : Nat → Prop) (base : Nat) (e : TypeId) (size : Nat) (v0 : Value) (B k : Nat) (xs : List Value) : Job Grows (Zc own) :=
 ⟨Option Addr × Nat, (none, 0), fun p => .slice p.1 k p.2, fun _ _ => True, fun _ _ _ _ _ => trivial, true, true,
  fun p w => w.ownsRow base e size (.slice p.1 k p.2) k xs ∧ ((Value.slice p.1 k p.2).ownBlock = v0.ownBlock ∨ ∃ g, (Value.slice p.1 k p.2).ownBlock = some g ∧ B ≤ g), fun _ _ _ h g => ⟨Zd h.1 g, h.2⟩⟩
theorem Zlt {own : Nat → Prop} {P : Program} {ops : Array Oper} {W : World} {Q : Act → World → Prop} {o : Oper} {rest : List Oper} {js : List (Job Grows (Zc own))} {ks : Known} {C : World → Prop} {a : Act} (hw : Region.wanted o (yielded ops a.tmps) = true) (s x : Operand) (t : TypeId) (ho : o.op = .call { callee := .builtin .append, args := #[s, x], argTypes := #[t, t] })
 {base : Nat} {e : TypeId} {i : TypeInfo} {z : Value} {size bytes : Nat} (ht : P.underlying t = some (.slice e)) (hi : P.info? e = some i) (hz : i.zero = some z) (hsize : i.size = size) (hby : i.bytes = bytes) (hzs : z.cells.size = size) (hpos : 0 < size)
 {v0 : Value} {n : Nat} {xs : List Value} (hs : a.eval s = v0) (hcls : ∀ w, C w → w.ownsRow base e size v0 n xs) (hown : ∀ g, v0.ownBlock = some g → own g)
 {ad : Addr} {m c : Nat} {news : List Value} (hx : a.eval x = .slice (some ad) m c) (hl : news.length = m * size) (hr : ∀ w, Zc own W w → ks.for (o.looksAt ops) w → ∀ j u, news[j]? = some u → w.cell? (ad.add j) = some u) (h1 : ∀ u ∈ news, u.oneCell' = true)
 (k : Nat) (hk : n + m = k) (h63 : k ≤ maxLen) (hbytes : k * bytes ≤ 140737488355328) (hbase : base ≤ W.heap.size)
 (h : ∀ A' c', wpJ P ops W Q rest js ks (fun w => w.ownsRow base e size (.slice A' k c') k (xs ++ news) ∧ ((Value.slice A' k c').ownBlock = v0.ownBlock ∨ ∃ g, (Value.slice A' k c').ownBlock = some g ∧ W.heap.size ≤ g)) (a.put o.dst (.slice A' k c'))) :
 wpJ P ops W Q (o :: rest) (Zls own base e size v0 W.heap.size k (xs ++ news) :: js) ks C a := by
 subst hk
 unfold wpJ jStep
 rw [if_pos hw]
 refine ⟨fun w hW hkn hC => ?_, fun p => Ju _ _ ks _ _ _ (fun k hk => List.mem_cons_of_mem _ hk) (h p.1 p.2)⟩
 have hrow := hcls w (hC rfl)
 obtain ⟨v', w', hrun, h2, h3, _, h4⟩ := run_append_own_at (P := P) (w := w) base t o.type e i z size bytes ht hi hz hsize hby hzs hpos v0 n xs hrow ad m c news hl (hr w hW hkn) h1 h63 hbytes (Nat.le_trans hbase hW.size)
 obtain ⟨A', c', rfl⟩ := Z8 h2
 have hex : (execOp a.eval o).run P w = .ok (.value (.slice A' (n + m) c')) w' := by
  unfold execOp
  simp only [ho, resolve, invoke, builtin, Sem.run_bind, Sem.run_pure, Result.andThen_ok, List.map_toArray, List.map_cons, List.map_nil, hs, hx, hrun]
 rw [hex]
 refine ⟨(A', c'), rfl, trivial, fun _ => ⟨?_, h2, ?_⟩, fun h => by cases h⟩
 ·exact ⟨h3.os, h3.tape, h3.output, h3.size, fun q hq ho => h3.block q hq fun e => ho (hown q e.symm)⟩
 ·rcases h4 with h4 | h4
  ·exact .inl h4
  ·exact .inr ⟨_, h4, hW.size⟩
theorem RfAt.named {w w3 : World} {r : Nat} {own : Nat → Prop} {m : Rf} {fv nv kv pv v : Value} {l : Dir} (h : RfAt w r own m fv nv kv pv) (hg : Grows w w3) (hr : w3.ownsRow 0 84 2 v l.length (l.flatMap enC)) (hb : ∀ k, v.ownBlock = some k → nv.ownBlock = some k ∨ w.heap.size ≤ k) :
 RfAt (w3.setCell ⟨r, 2, none⟩ v) r (fun k => own k ∨ (w.heap.size ≤ k ∧ k < (w3.setCell ⟨r, 2, none⟩ v).heap.size)) { m with names := l } fv v kv pv ∧ Zc (fun k => k = r) w (w3.setCell ⟨r, 2, none⟩ v) := by
 have h3 := h.grow hg
 have hs : Zc (fun k => k = r) w3 (w3.setCell ⟨r, 2, none⟩ v) := (Zc.refl (fun k => k = r) w3).setCell (p := ⟨r, 2, none⟩) rfl v
 have keep : ∀ {e : TypeId} {k n : Nat} {u : Value} {xs : List Value}, w3.ownsRow 0 e k u n xs → e ≠ 64 → (w3.setCell ⟨r, 2, none⟩ v).ownsRow 0 e k u n xs := fun hr hne => Zy hr fun k hk => hs.same k (hr.lt k hk).2 fun e => Ym h3.top hr hne (e ▸ hk)
 have hk2 := keep hr (by decide)
 exact ⟨⟨h3.top.put 2 v, .inl h.ro, fun k hk => hk.elim (fun hk => Nat.lt_of_lt_of_le (h3.lt k hk) hs.size) (fun hk => hk.2), keep h3.files (by decide), fun k hk => .inl (h.fo k hk), hk2, fun k hk => (hb k hk).elim (fun e => .inl (h.no k e)) (fun e => .inr ⟨e, (hk2.lt k hk).2⟩), keep h3.kept (by decide), fun k hk => .inl (h.ko k hk), keep h3.pend (by decide), fun k hk => .inl (h.po k hk)⟩, (Zc.grows hg).trans hs⟩
theorem Zc.fresh {own own4 : Nat → Prop} {a b c : World} (h : Zc own a b) (k : Zc own4 b c) (h4 : ∀ q, own4 q → own q ∨ a.heap.size ≤ q) : Zc own a c :=
 ⟨k.os.trans h.os, k.tape.trans h.tape, k.output.trans h.output, Nat.le_trans h.size k.size, fun i hi ho => (k.same i (Nat.lt_of_lt_of_le hi h.size) fun e => (h4 i e).elim ho fun e => by omega).trans (h.same i hi ho)⟩
theorem Zdm {w : World} {e e' : TypeId} {k k' n n' b b' g : Nat} {u v : Value} {xs ys : List Value} (h : w.ownsRow b e k u n xs) (h' : w.ownsRow b' e' k' v n' ys) (hne : e ≠ e') (hg : u.ownBlock = some g) : ¬ v.ownBlock = some g := fun hv => by
 obtain ⟨c1, e1⟩ := Zs h hg
 obtain ⟨c2, e2⟩ := Zs h' hv
 rw [e1] at e2
 injection e2 with e2
 injection e2 with _ e2 _
 exact hne e2
theorem RfAt.pended {w w6 : World} {r : Nat} {own : Nat → Prop} {m : Rf} {fv nv kv pv p' : Value} {ch : Ch} (h : RfAt w r own m fv nv kv pv) (hs : Zc (fun k => pv.ownBlock = some k) w w6) (hr : w6.ownsRow 0 117 4 p' (m.pend ++ [ch]).length ((m.pend ++ [ch]).flatMap chC))
 (hb : p'.ownBlock = pv.ownBlock ∨ ∃ g, p'.ownBlock = some g ∧ w.heap.size ≤ g) :
 RfAt (w6.setCell ⟨r, 4, none⟩ p') r (fun k => own k ∨ (w.heap.size ≤ k ∧ k < (w6.setCell ⟨r, 4, none⟩ p').heap.size)) { m with pend := m.pend ++ [ch] } fv nv kv p' ∧ Zc own w (w6.setCell ⟨r, 4, none⟩ p') := by
 have htop : Whole w6 r 64 (Y3 m fv nv kv pv) := h.top.same (hs.same _ h.top.lt fun e => Ym h.top h.pend (by decide) e)
 have hs2 : Zc (fun k => k = r) w6 (w6.setCell ⟨r, 4, none⟩ p') := (Zc.refl (fun k => k = r) w6).setCell (p := ⟨r, 4, none⟩) rfl p'
 have keep : ∀ {e : TypeId} {k n : Nat} {u : Value} {xs : List Value}, w6.ownsRow 0 e k u n xs → e ≠ 64 → (w6.setCell ⟨r, 4, none⟩ p').ownsRow 0 e k u n xs := fun hr hne => Zy hr fun k hk => hs2.same k (hr.lt k hk).2 fun e => Ym htop hr hne (e ▸ hk)
 have keep1 : ∀ {e : TypeId} {k n : Nat} {u : Value} {xs : List Value}, w.ownsRow 0 e k u n xs → e ≠ 117 → w6.ownsRow 0 e k u n xs := fun hr hne => Zy hr fun k hk => hs.same k (hr.lt k hk).2 (Zdm hr h.pend hne hk)
 have hk4 := keep hr (by decide)
 have hsz : w.heap.size ≤ (w6.setCell ⟨r, 4, none⟩ p').heap.size := Nat.le_trans hs.size hs2.size
 refine ⟨⟨htop.put 4 p', .inl h.ro, fun k hk => hk.elim (fun hk => Nat.lt_of_lt_of_le (h.lt k hk) hsz) (fun hk => hk.2), keep (keep1 h.files (by decide)) (by decide), fun k hk => .inl (h.fo k hk), keep (keep1 h.names (by decide)) (by decide), fun k hk => .inl (h.no k hk), keep (keep1 h.kept (by decide)) (by decide), fun k hk => .inl (h.ko k hk), hk4, fun k hk => ?_⟩,
  (hs.wider fun k _ e => h.po k e).trans (hs2.wider fun k _ e => e ▸ h.ro)⟩
 rcases hb with hb | ⟨g, hg, hge⟩
 ·exact .inl (h.po k (hb ▸ hk))
 ·rw [hg] at hk
  injection hk with hk
  subst hk
  exact .inr ⟨hge, (hk4.lt _ hg).2⟩
section
variable {w w' : World} {r : Nat} {own : Nat → Prop} {m m' : Rf} {fv nv kv pv : Value}
set_option maxHeartbeats 4000000 in
set_option maxRecDepth 100000 in
theorem Zex (w : World) (ch : Ch) (h : RfAt w r own m fv nv kv pv) (hF : m.names.length ≤ 100000 ∧ m.pend.length ≤ 100000) :
 Calls Tryz.prog 102 #[.pointer (some ⟨r, 0, none⟩), .agg (chC ch).toArray] w fun e w' => e = .returned (.tuple #[]) ∧ RfTo w r own w' (m.change ch) := by
 obtain ⟨i1, hi1, hz1, hy1, hb1⟩ := info_parts infoOp
 have HI1 := hid (And.intro hi1 (And.intro hz1 (And.intro hy1 hb1)))
 obtain ⟨A, c, hA⟩ := Z8 h.names
 obtain ⟨PA, pc, hPA⟩ := Z8 h.pend
 have HA := hid (And.intro hA hPA)
 have H := hid h
 have HF := hid hF
 obtain ⟨W1, hW1⟩ : ∃ W1, w.alloc (.cells (chC ch).toArray 117) = W1 := ⟨_, rfl⟩
 have HG0 := hid (show Grows w W1 from hW1 ▸ Zb _ _)
 have HO := hid (show Whole W1 w.heap.size 117 (chC ch).toArray from hW1 ▸ Whole.made _ _ _)
 clear h hi1 hz1 hy1 hb1 hA hPA hF
 obtain ⟨va, vb, vc, vd, hch⟩ : ∃ va vb vc vd, chC ch = [va, vb, vc, vd] := by cases ch <;> exact ⟨_, _, _, _, rfl⟩
 have HCH := hid hch
 have hO2 := HO.out
 rw [hch] at hO2 hW1 ⊢
 have HO2 := hid (show Whole W1 w.heap.size 117 #[va, vb, vc, vd] from hO2)
 change w.alloc (.cells #[va, vb, vc, vd] 117) = W1 at hW1
 change Calls Tryz.prog 102 #[.pointer (some ⟨r, 0, none⟩), .agg #[va, vb, vc, vd]] w _
 have hdo := fun (w' : World) (hg : Grows W1 w') => Zgy w' (A := A) (c := c) (l := m.names) (n := m.names.length) ch (HA.out.1 ▸ Zd H.out.names (Grows.trans HG0.out hg)) rfl HF.out.1
 rw [hch] at hdo
 have HDO := hid (show ∀ w', Grows W1 w' → Calls Tryz.prog 72 #[.slice A m.names.length c, .agg #[va, vb, vc, vd]] w' fun e w'' => RDoTo w' (.slice A m.names.length c) (rdoes ch m.names) e w'' from hdo)
 clear hO2 hdo hch
 have HCF := hid (show ∀ w', Grows W1 w' → w'.cell? { block := r, off := 2 } = some (.slice A m.names.length c) ∧ w'.cell? { block := w.heap.size, off := 0 } = some va ∧ w'.cell? { block := w.heap.size, off := 1 } = some vb ∧ w'.cell? { block := w.heap.size, off := 2 } = some vc ∧ w'.cell? { block := w.heap.size, off := 3 } = some vd from fun w' hg' =>
  ⟨HA.out.1 ▸ ((Grows.trans HG0.out hg').whole H.out.top).cell 2, (hg'.whole HO2.out).cell 0, (hg'.whole HO2.out).cell 1, (hg'.whole HO2.out).cell 2, (hg'.whole HO2.out).cell 3⟩)
 go_enter Tryz.func102, Tryz.ntmps102
 go_wp2_with (fail)
 clear hW1
 refine Zh (E := Grows) 9 [Za (.pointer (some ⟨r, 0, none⟩)), Za (.pointer (some ⟨r, 0, none⟩)), Za (.pointer (some ⟨r, 0, none⟩)), Za (.pointer (some ⟨r, 2, none⟩)), Za (.slice A m.names.length c), Za (.agg #[va, vb, vc, vd]), Zqj w (.slice A m.names.length c) (rdoes ch m.names), Za (.pointer (some ⟨r, 0, none⟩)), Za (.pointer (some ⟨r, 2, none⟩))] mixed (by kernel_rfl) (fun _ _ _ => Grows.trans) (Ze _) ?_
 simp only [List.take_succ_cons, List.take_zero, List.drop_succ_cons, List.drop_zero]
 iterate 4
  refine f_val _ (by rfl) ?_ ?_
  ·intro w' hC; clear hC; go_simp
  simp only [Pu]
 iterate 2
  refine f_val _ (by rfl) ?_ ?_
  ·intro w' hC; obtain ⟨z1, z2, z3, z4, z5⟩ := HCF.out w' hC; clear hC; go_simp
  simp only [Pu]
 refine f_do w (.slice A m.names.length c) (rdoes ch m.names) 72 #[.slice A m.names.length c, .agg #[va, vb, vc, vd]] (by rfl) (by intro w' hC; clear hC; go_simp) HG0.out.size ?_ ?_
 ·intro w' hC hks; exact HDO.out w' hC
 intro nv2
 simp only [Pu]
 iterate 2
  refine f_val _ (by rfl) ?_ ?_
  ·intro w' hC; clear hC; go_simp
  simp only [Pu]
 refine Zv ?_
 intro w3 hC hks
 have HCw3 := hid hC
 have HK := hid (Known.at hks 0 rfl)
 clear hC hks
 have hcr : w3.cell? ⟨r, 2, none⟩ = some (.slice A m.names.length c) := (HCF.out w3 HCw3.out).1
 have hfr : w3.frozen? ⟨r, 2, none⟩ = false := ((Grows.trans HG0.out HCw3.out).whole H.out.top).free 2
 obtain ⟨A2, c2, rfl⟩ := Z8 HK.out.1
 have HNM := hid (H.out.named (Grows.trans HG0.out HCw3.out) HK.out.1 (fun k hk => (HK.out.2 k hk).imp (fun h => HA.out.1.symm ▸ h) id))
 go_wp2_with (fail)
 obtain ⟨W4, hW4⟩ : ∃ W4, w3.setCell { block := r, off := 2 } (.slice A2 (rdoes ch m.names).length c2) = W4 := ⟨_, rfl⟩
 have hnm := HNM.out
 rw [show (⟨r, 2, none⟩ : Addr) = { block := r, off := 2 } from rfl, hW4] at hnm
 have H4 := hid hnm
 have HGO := hid (show Whole W4 w.heap.size 117 #[va, vb, vc, vd] from (HCw3.out.whole HO2.out).same (hW4 ▸ ((Zc.refl (fun k => k = r) w3).setCell (p := ⟨r, 2, none⟩) rfl _).same _ (HCw3.out.whole HO2.out).lt (fun e => by have := H.out.lt r H.out.ro; omega)))
 rw [hW4]
 clear hW4 hnm HNM HDO HCF HK hcr hfr
 have hpl : ∀ k, pv.ownBlock = some k → own k := H.out.po
 have hpr : ¬ pv.ownBlock = some r := fun e => Ym H.out.top H.out.pend (by decide) e
 have hpw : ¬ pv.ownBlock = some w.heap.size := fun e => by have := H.out.lt _ (hpl _ e); omega
 have HPB := hid (And.intro hpl (And.intro hpr hpw))
 have HCF := hid (show ∀ w', Zc (fun k => pv.ownBlock = some k) W4 w' → w'.cell? { block := r, off := 4 } = some (.slice PA m.pend.length pc) ∧ w'.cell? { block := w.heap.size, off := 0 } = some va ∧ w'.cell? { block := w.heap.size, off := 1 } = some vb ∧ w'.cell? { block := w.heap.size, off := 2 } = some vc ∧ w'.cell? { block := w.heap.size, off := 3 } = some vd from fun w' hs' =>
  ⟨HA.out.2 ▸ (H4.out.1.top.same (hs'.same _ H4.out.1.top.lt HPB.out.2.1)).cell 4, (HGO.out.same (hs'.same _ HGO.out.lt HPB.out.2.2)).cell 0, (HGO.out.same (hs'.same _ HGO.out.lt HPB.out.2.2)).cell 1, (HGO.out.same (hs'.same _ HGO.out.lt HPB.out.2.2)).cell 2, (HGO.out.same (hs'.same _ HGO.out.lt HPB.out.2.2)).cell 3⟩)
 have HLK := hid (show ∀ k, pv.ownBlock = some k → k < W4.heap.size from fun k hk => H4.out.1.lt k (.inl (HPB.out.1 k hk)))
 clear hpl hpr hpw
 refine Yh (G := Grows) (E := Zc (fun k => pv.ownBlock = some k)) 10 [Zl _ (.pointer (some ⟨r, 0, none⟩)), Zl _ (.pointer (some ⟨r, 0, none⟩)), Zl _ (.pointer (some ⟨r, 0, none⟩)), Zl _ (.pointer (some ⟨r, 4, none⟩)), Zl _ (.slice PA m.pend.length pc), Zl _ (.agg #[va, vb, vc, vd]), Zmy _ (117) (#[va, vb, vc, vd]) 1, Zls (fun k => pv.ownBlock = some k) 0 (117) 4 (.slice PA m.pend.length pc) W4.heap.size (m.pend.length + 1) (m.pend.flatMap chC ++ [va, vb, vc, vd]), Zl _ (.pointer (some ⟨r, 0, none⟩)), Zl _ (.pointer (some ⟨r, 4, none⟩))] [(false, false), (false, false), (false, false), (false, false), (false, false), (false, false), (false, false), (true, true), (false, false), (false, false)] (fun w' => w'.ownsRow 0 117 4 (.slice PA m.pend.length pc) m.pend.length (m.pend.flatMap chC)) rfl mixed (by kernel_rfl) (fun _ _ => Zc.grows) (fun _ _ _ => Zc.trans) (Jd _ _) (HA.out.2 ▸ Zd H4.out.1.pend (Ze _)) (fun _ _ h hg => Zd h hg) ?_
 simp only [List.take_succ_cons, List.take_zero, List.drop_succ_cons, List.drop_zero]
 iterate 4
  refine j_val _ (by rfl) ?_ ?_
  ·intro w' hC; clear hC; go_simp
  simp only [Pu]
 iterate 2
  refine j_val _ (by rfl) ?_ ?_
  ·intro w' hC; obtain ⟨z1, z2, z3, z4, z5⟩ := HCF.out w' hC; clear hC; go_simp
  simp only [Pu]
 refine Zqo (117) (#[va, vb, vc, vd]) 1 (HLK.out) (by rfl) ?_ ?_
 ·intro w' hC; clear hC; go_simp
 intro gm
 simp only [Pu]
 refine Zlt (by rfl) (.tmp 17) (.tmp 19) 62 rfl (i := i1) (z := .agg #[.int .i64 0, .string ⟨#[]⟩, .string ⟨#[]⟩, .int .i64 0]) (bytes := 48) Tryz.underlying62 HI1.out.1 HI1.out.2.1 HI1.out.2.2.1 HI1.out.2.2.2 rfl (by decide) (n := m.pend.length) rfl (fun w' hcl => hcl) (fun g hg => HA.out.2 ▸ hg)
  (ad := ⟨gm, 0, none⟩) (m := 1) (c := 1) rfl rfl (fun w' hs' hks j u hj => by
    have hwm := (Known.get hks 0 rfl rfl : Whole w' gm 117 #[va, vb, vc, vd] ∧ _).1
    rw [show (⟨gm, 0, none⟩ : Addr).add j = ⟨gm, j, none⟩ by unfold Addr.add; split <;> simp_all, hwm.cell j]
    simpa using hj) (fun u hu => Zqz ch u (HCH.out.symm ▸ hu)) (m.pend.length + 1) rfl (by unfold maxLen; have := HF.out.2; omega) (by have := HF.out.2; omega) (Nat.zero_le _) ?_
 intro PB pd
 simp only [Pu]
 iterate 2
  refine j_val _ (by rfl) ?_ ?_
  ·intro w' hC; clear hC; go_simp
  simp only [Pu]
 refine Zcv ?_
 intro w6 hC hks hcls
 have HCw6 := hid hC
 have HLw6 := hid hcls
 clear hC hks hcls
 have hcr : w6.cell? ⟨r, 4, none⟩ = some (.slice PA m.pend.length pc) := (HCF.out w6 HCw6.out).1
 have hfr : w6.frozen? ⟨r, 4, none⟩ = false := (H4.out.1.top.same (HCw6.out.same _ H4.out.1.top.lt HPB.out.2.1)).free 4
 go_wp2_with (fail)
 go_end0
 have hrow := HLw6.out.1
 rw [← HCH.out] at hrow
 have hpe := H4.out.1.pended (p' := .slice PB (m.pend.length + 1) pd) (ch := ch) HCw6.out (by
  rw [List.length_append, List.flatMap_append]
  show w6.ownsRow 0 117 4 _ (m.pend.length + 1) (m.pend.flatMap chC ++ (chC ch ++ []))
  rw [List.append_nil]
  exact hrow) (HLw6.out.2.imp (fun h => HA.out.2.symm ▸ h) id)
 refine ⟨rfl, _, _, _, _, _, hpe.1, ?_, fun k hk => ?_⟩
 ·exact (H4.out.2.wider fun k _ e => e ▸ H.out.ro).fresh hpe.2 fun q e => e.imp id fun e => e.1
 ·rcases hk with (hk | hk) | hk
  ·exact .inl hk
  ·exact .inr hk.1
  ·exact .inr (Nat.le_trans H4.out.2.size hk.1)
end
section
variable {w w' : World} {r : Nat} {own : Nat → Prop} {m m' : Rf} {fv nv kv pv : Value}
theorem RfTo.trans {w w1 w2 : World} {own1 : Nat → Prop} {m2 : Rf} (hs : Zc own w w1) (ho : ∀ k, own1 k → own k ∨ w.heap.size ≤ k) (h : RfTo w1 r own1 w2 m2) : RfTo w r own w2 m2 := by
 obtain ⟨own2, a, b, c, d, h1, h2, h3⟩ := h
 exact ⟨own2, a, b, c, d, h1, hs.fresh h2 ho, fun k hk => (h3 k hk).elim (ho k) fun e => .inr (Nat.le_trans hs.size e)⟩
theorem RfTo.behind {w w1 w2 : World} {m2 : Rf} (hro : own r) (hs : Zc (fun k => k = r) w w1) (h : RfTo w1 r own w2 m2) : RfTo w r own w2 m2 := RfTo.trans (hs.wider fun k _ e => e ▸ hro) (fun k hk => .inl hk) h
theorem Jc (m : Rf) : m.thing.1.files = m.files ∧ m.thing.1.names = m.names ∧ m.thing.1.kept = m.kept ∧ m.thing.1.pend = m.pend ∧ m.thing.1.most = m.most := by
 unfold Rf.thing
 split
 ·exact ⟨rfl, rfl, rfl, rfl, rfl⟩
 ·split <;> exact ⟨rfl, rfl, rfl, rfl, rfl⟩
def RDid (w : World) (r : Nat) (own : Nat → Prop) (x : Rf × Int) (e : Ending) (w' : World) : Prop := e = .returned (.int .i64 x.2) ∧ RfTo w r own w' x.1
set_option maxHeartbeats 4000000 in
set_option maxRecDepth 100000 in
theorem Zie (w : World) (n : Nm) (h : RfAt w r own m fv nv kv pv) (hF : RfFit m) : Calls Tryz.prog 60 #[.pointer (some ⟨r, 0, none⟩), .string ⟨n.toArray⟩] w fun e w' => RDid w r own (m.remove n) e w' := by
 have c8 : w.cell? ⟨r, 8, none⟩ = some (.bool m.down) := h.cell 8
 obtain ⟨A, c, hA, hrw⟩ := h.namesRw
 have c2 : w.cell? ⟨r, 2, none⟩ = some (.slice A m.names.length c) := by rw [← hA]; exact h.cell 2
 have HFI := hid (Yu w (c := c) n hrw (by have := hF.names; omega))
 have HTH := hid (Zat w h ⟨hF.nums.1.2, hF.nums.2.2⟩)
 have H := hid h
 have HF := hid hF
 unfold Rf.remove
 cases hd : m.down with
 | true =>
   rw [hd] at c8
   rw [if_pos rfl]
   clear h hF hA hrw c2 HFI hd HTH
   go_enter Tryz.func60, Tryz.ntmps60
   go_wp2
   go_ret
   exact ⟨rfl, RfTo.same H.out (Zc.refl _ _) H.out.ro⟩
 | false =>
 rw [hd] at c8
 rw [if_neg (by decide)]
 rcases Jm (n := n) (l := m.names) with ⟨hf, hx'⟩ | ⟨i, f, hf, hx', hi⟩
 ·rw [hf]
  dsimp only
  rw [hx'] at HFI
  clear h hA hrw hf hx' hF hd HTH
  go_enter Tryz.func60, Tryz.ntmps60
  go_wp2_with (fail)
  refine HFI.out.mono ?_
  rintro e w1 ⟨rfl, rfl⟩
  go_wp2_with (fail)
  go_ret
  exact ⟨rfl, RfTo.same H.out (Zc.refl _ _) H.out.ro⟩
 rw [hf]
 dsimp only
 rw [hx'] at HFI
 have hi0 : ¬ ((i : Int) < 0) := by omega
 obtain ⟨tc, htc⟩ : ∃ tc, m.thing.2 = tc := ⟨_, rfl⟩
 rw [htc] at HTH
 have HTC := hid htc
 by_cases hz : tc = 0
 ·rw [if_pos (show m.thing.2 = 0 by rw [htc]; exact hz)]
  subst hz
  clear h hA hrw hf hx' hF hi hd htc
  go_enter Tryz.func60, Tryz.ntmps60
  go_wp2_with (fail)
  refine HFI.out.mono ?_
  rintro e w1 ⟨rfl, rfl⟩
  go_wp2_with (fail)
  refine HTH.out.mono ?_
  rintro e w2 ⟨rfl, X, hX, hat, hs⟩
  have HAT := hid (And.intro hat hs)
  have hnm := Zex w2 (.taken n) hat (by rw [hX]; have := Jc m; rw [this.2.1, this.2.2.2.1]; exact ⟨HF.out.names, HF.out.pend⟩)
  have HNM := hid (show Calls Tryz.prog 102 #[.pointer (some ⟨r, 0, none⟩), .agg #[.int .i64 3, .string ⟨n.toArray⟩, .string ⟨#[]⟩, .int .i64 0]] w2 fun e w' => e = .returned (.tuple #[]) ∧ RfTo w2 r own w' (X.change (.taken n)) from hnm)
  have HX := hid hX
  clear hnm hat hs hX
  go_wp2_with (fail)
  refine HNM.out.mono ?_
  rintro e w3 ⟨rfl, hto⟩
  have HTO := hid hto
  clear hto
  go_wp2_with (fail)
  go_ret
  rw [← HX.out]
  exact ⟨rfl, RfTo.behind H.out.ro HAT.out.2 HTO.out⟩
 ·rw [if_neg (show ¬ m.thing.2 = 0 by rw [htc]; exact hz)]
  have hzb : (tc == 0) = false := by rw [beq_eq_false_iff_ne]; exact hz
  clear h hA hrw hf hx' hF hi hd htc
  go_enter Tryz.func60, Tryz.ntmps60
  go_wp2_with (fail)
  refine HFI.out.mono ?_
  rintro e w1 ⟨rfl, rfl⟩
  go_wp2_with (fail)
  refine HTH.out.mono ?_
  rintro e w2 ⟨rfl, X, hX, hat, hs⟩
  have HAT := hid (And.intro hat hs)
  have HX := hid hX
  clear hat hs hX
  go_wp2_with (fail)
  go_ret
  refine ⟨by rw [HTC.out]; rfl, ?_⟩
  rw [← HX.out]
  exact RfTo.same HAT.out.1 HAT.out.2 H.out.ro
end
theorem infoFl : (Tryz.prog.info? 82).map (fun i => (i.zero, i.size, i.bytes)) = some (some (.agg #[.string ⟨#[]⟩, .int .i64 0]), 2, 24) := by kernel_rfl
theorem Zfr (f : Fl) : ∀ u ∈ flC f, u.oneCell' = true := by
 intro u hu
 simp only [flC, List.mem_cons, List.not_mem_nil, or_false] at hu
 rcases hu with rfl | rfl <;> simp [Value.oneCell']
section
variable {w w' : World} {r : Nat} {own : Nat → Prop} {m m' : Rf} {fv nv kv pv fv' nv' kv' pv' : Value}
theorem RfAt.retop (h : RfAt w r own m fv nv kv pv) (hs : Zc (fun k => k = r) w w') (ht : Whole w' r 64 (Y3 m' fv' nv' kv' pv'))
 (h1 : w.ownsRow 0 82 2 fv' m'.files.length (m'.files.flatMap flC)) (o1 : ∀ k, fv'.ownBlock = some k → own k)
 (h2 : w.ownsRow 0 84 2 nv' m'.names.length (m'.names.flatMap enC)) (o2 : ∀ k, nv'.ownBlock = some k → own k)
 (h3 : w.ownsRow 0 84 2 kv' m'.kept.length (m'.kept.flatMap enC)) (o3 : ∀ k, kv'.ownBlock = some k → own k)
 (h4 : w.ownsRow 0 117 4 pv' m'.pend.length (m'.pend.flatMap chC)) (o4 : ∀ k, pv'.ownBlock = some k → own k) : RfAt w' r own m' fv' nv' kv' pv' := by
 have keep : ∀ {e : TypeId} {k n : Nat} {u : Value} {xs : List Value}, w.ownsRow 0 e k u n xs → e ≠ 64 → w'.ownsRow 0 e k u n xs := fun hr hne => Zy hr fun k hk => hs.same k (hr.lt k hk).2 fun e => Ym h.top hr hne (e ▸ hk)
 exact ⟨ht, h.ro, fun k hk => Nat.lt_of_lt_of_le (h.lt k hk) hs.size, keep h1 (by decide), o1, keep h2 (by decide), o2, keep h3 (by decide), o3, keep h4 (by decide), o4⟩
theorem RfAt.filedA {w6 : World} {p' : Value} {fs : List Fl} (h : RfAt w r own m fv nv kv pv) (hs : Zc (fun k => fv.ownBlock = some k) w w6) (hr : w6.ownsRow 0 82 2 p' fs.length (fs.flatMap flC))
 (hb : p'.ownBlock = fv.ownBlock ∨ ∃ g, p'.ownBlock = some g ∧ w.heap.size ≤ g) :
 RfAt (w6.setCell ⟨r, 1, none⟩ p') r (fun k => own k ∨ (w.heap.size ≤ k ∧ k < (w6.setCell ⟨r, 1, none⟩ p').heap.size)) { m with files := fs } p' nv kv pv ∧ Zc own w (w6.setCell ⟨r, 1, none⟩ p') := by
 have htop : Whole w6 r 64 (Y3 m fv nv kv pv) := h.top.same (hs.same _ h.top.lt fun e => Ym h.top h.files (by decide) e)
 have hs2 : Zc (fun k => k = r) w6 (w6.setCell ⟨r, 1, none⟩ p') := (Zc.refl (fun k => k = r) w6).setCell (p := ⟨r, 1, none⟩) rfl p'
 have keep : ∀ {e : TypeId} {k n : Nat} {u : Value} {xs : List Value}, w6.ownsRow 0 e k u n xs → e ≠ 64 → (w6.setCell ⟨r, 1, none⟩ p').ownsRow 0 e k u n xs := fun hr hne => Zy hr fun k hk => hs2.same k (hr.lt k hk).2 fun e => Ym htop hr hne (e ▸ hk)
 have keep1 : ∀ {e : TypeId} {k n : Nat} {u : Value} {xs : List Value}, w.ownsRow 0 e k u n xs → e ≠ 82 → w6.ownsRow 0 e k u n xs := fun hr hne => Zy hr fun k hk => hs.same k (hr.lt k hk).2 (Zdm hr h.files hne hk)
 have hk4 := keep hr (by decide)
 have hsz : w.heap.size ≤ (w6.setCell ⟨r, 1, none⟩ p').heap.size := Nat.le_trans hs.size hs2.size
 refine ⟨⟨htop.put 1 p', .inl h.ro, fun k hk => hk.elim (fun hk => Nat.lt_of_lt_of_le (h.lt k hk) hsz) (fun hk => hk.2), hk4, fun k hk => ?_, keep (keep1 h.names (by decide)) (by decide), fun k hk => .inl (h.no k hk), keep (keep1 h.kept (by decide)) (by decide), fun k hk => .inl (h.ko k hk), keep (keep1 h.pend (by decide)) (by decide), fun k hk => .inl (h.po k hk)⟩,
  (hs.wider fun k _ e => h.fo k e).trans (hs2.wider fun k _ e => e ▸ h.ro)⟩
 rcases hb with hb | ⟨g, hg, hge⟩
 ·exact .inl (h.fo k (hb ▸ hk))
 ·rw [hg] at hk
  injection hk with hk
  subst hk
  exact .inr ⟨hge, (hk4.lt _ hg).2⟩
set_option maxHeartbeats 4000000 in
set_option maxRecDepth 100000 in
theorem Zgw (w : World) (h : RfAt w r own m fv nv kv pv) (hF : RfFit m) : Calls Tryz.prog 35 #[.pointer (some ⟨r, 0, none⟩)] w fun e w' => RDid w r own m.syncDir e w' := by
 have c8 : w.cell? ⟨r, 8, none⟩ = some (.bool m.down) := h.cell 8
 have HTH := hid (Zat w h ⟨hF.nums.1.2, hF.nums.2.2⟩)
 have H := hid h
 unfold Rf.syncDir
 cases hd : m.down with
 | true =>
   rw [hd] at c8
   rw [if_pos rfl]
   clear h hF hd HTH
   go_enter Tryz.func35, Tryz.ntmps35
   go_wp2
   go_ret
   exact ⟨rfl, RfTo.same H.out (Zc.refl _ _) H.out.ro⟩
 | false =>
 rw [hd] at c8
 rw [if_neg (by decide)]
 obtain ⟨tc, htc⟩ : ∃ tc, m.thing.2 = tc := ⟨_, rfl⟩
 rw [htc] at HTH
 have HTC := hid htc
 by_cases hz : tc = 0
 ·rw [if_pos (show m.thing.2 = 0 by rw [htc]; exact hz)]
  subst hz
  clear h hF hd htc
  go_enter Tryz.func35, Tryz.ntmps35
  go_wp2_with (fail)
  refine HTH.out.mono ?_
  rintro e w2 ⟨rfl, X, hX, hat, hs⟩
  obtain ⟨A, c, hA⟩ := Z8 hat.names
  obtain ⟨KA, kc, hKA⟩ := Z8 hat.kept
  obtain ⟨PA, pc, hPA⟩ := Z8 hat.pend
  have c2 : w2.cell? ⟨r, 2, none⟩ = some (.slice A X.names.length c) := hA ▸ hat.cell 2
  have c3 : w2.cell? ⟨r, 3, none⟩ = some (.slice KA X.kept.length kc) := hKA ▸ hat.cell 3
  have c4 : w2.cell? ⟨r, 4, none⟩ = some (.slice PA X.pend.length pc) := hPA ▸ hat.cell 4
  have f3 := hat.top.free 3
  have f4 := hat.top.free 4
  have HFIN := hid (show RfAt ((w2.setCell ⟨r, 3, none⟩ (.slice A X.names.length c)).setCell ⟨r, 4, none⟩ (.slice none 0 0)) r own { X with kept := X.names, pend := [] } fv nv nv (.slice none 0 0) ∧ Zc (fun k => k = r) w ((w2.setCell ⟨r, 3, none⟩ (.slice A X.names.length c)).setCell ⟨r, 4, none⟩ (.slice none 0 0)) by
   have s1 : Zc (fun k => k = r) w2 ((w2.setCell ⟨r, 3, none⟩ (.slice A X.names.length c)).setCell ⟨r, 4, none⟩ (.slice none 0 0)) := ((Zc.refl (fun k => k = r) w2).setCell (p := ⟨r, 3, none⟩) rfl _).setCell (p := ⟨r, 4, none⟩) rfl _
   refine ⟨hat.retop s1 ?_ hat.files hat.fo hat.names hat.no hat.names hat.no ⟨rfl, .inl ⟨rfl, rfl⟩⟩ (fun k hk => by cases hk), hs.trans s1⟩
   rw [← hA]
   exact (hat.top.put 3 nv).put 4 (.slice none 0 0))
  have HX := hid (And.intro hX (show X.names = m.names by rw [hX]; exact (Jc m).2.1))
  clear hX hat hs hA hKA hPA
  go_wp2_with (fail)
  go_ret
  refine ⟨rfl, ?_⟩
  rw [← HX.out.1, ← HX.out.2]
  exact RfTo.same HFIN.out.1 HFIN.out.2 H.out.ro
 ·rw [if_neg (show ¬ m.thing.2 = 0 by rw [htc]; exact hz)]
  have hzb : (tc == 0) = false := by rw [beq_eq_false_iff_ne]; exact hz
  clear h hF hd htc
  go_enter Tryz.func35, Tryz.ntmps35
  go_wp2_with (fail)
  refine HTH.out.mono ?_
  rintro e w2 ⟨rfl, X, hX, hat, hs⟩
  have HAT := hid (And.intro hat hs)
  have HX := hid hX
  clear hat hs hX
  go_wp2_with (fail)
  go_ret
  refine ⟨by rw [HTC.out]; rfl, ?_⟩
  rw [← HX.out]
  exact RfTo.same HAT.out.1 HAT.out.2 H.out.ro
set_option maxHeartbeats 4000000 in
set_option maxRecDepth 100000 in
theorem Zid (w : World) (n : Nm) (h : RfAt w r own m fv nv kv pv) (hF : RfFit m) : Calls Tryz.prog 56 #[.pointer (some ⟨r, 0, none⟩), .string ⟨n.toArray⟩] w fun e w' => RDid w r own (m.create n) e w' := by
 obtain ⟨i1, hi1, hz1, hy1, hb1⟩ := info_parts infoFl
 have HI1 := hid (And.intro hi1 (And.intro hz1 (And.intro hy1 hb1)))
 clear hi1 hz1 hy1 hb1
 have c8 : w.cell? ⟨r, 8, none⟩ = some (.bool m.down) := h.cell 8
 obtain ⟨A, c, hA, hrw⟩ := h.namesRw
 have c2 : w.cell? ⟨r, 2, none⟩ = some (.slice A m.names.length c) := by rw [← hA]; exact h.cell 2
 have HFI := hid (Yu w (c := c) n hrw (by have := hF.names; omega))
 have HTH := hid (Zat w h ⟨hF.nums.1.2, hF.nums.2.2⟩)
 have HRT := hid (Zj9 n w)
 have H := hid h
 have HF := hid hF
 unfold Rf.create
 cases hd : m.down with
 | true =>
   rw [hd] at c8
   rw [if_pos rfl]
   clear h hF hA hrw c2 HFI hd HTH
   go_enter Tryz.func56, Tryz.ntmps56
   go_wp2
   go_ret
   exact ⟨rfl, RfTo.same H.out (Zc.refl _ _) H.out.ro⟩
 | false =>
 rw [hd] at c8
 rw [if_neg (by decide)]
 by_cases hr : right n = false
 ·rw [if_pos hr]
  rw [hr] at HRT
  clear h hF hA hrw c2 HFI hd HTH
  go_enter Tryz.func56, Tryz.ntmps56
  go_wp2_with (fail)
  refine HRT.out.mono ?_
  rintro e w1 ⟨rfl, rfl⟩
  go_wp2_with (fail)
  go_ret
  exact ⟨rfl, RfTo.same H.out (Zc.refl _ _) H.out.ro⟩
 rw [if_neg hr]
 have hr1 : right n = true := by simpa using hr
 rw [hr1] at HRT
 clear hr hr1
 rcases Jm (n := n) (l := m.names) with ⟨hf, hx'⟩ | ⟨i, f, hf, hx', hi⟩
 rotate_left 1
 ·rw [hf]
  rw [if_pos (show (some f).isSome = true from rfl)]
  rw [hx'] at HFI
  have hi0 : (i : Int) ≥ 0 := by omega
  clear h hA hrw hf hx' hF hd HTH hi
  go_enter Tryz.func56, Tryz.ntmps56
  go_wp2_with (fail)
  refine HRT.out.mono ?_
  rintro e w1 ⟨rfl, rfl⟩
  go_wp2_with (fail)
  refine HFI.out.mono ?_
  rintro e w1 ⟨rfl, rfl⟩
  go_wp2_with (fail)
  go_ret
  exact ⟨rfl, RfTo.same H.out (Zc.refl _ _) H.out.ro⟩
 rw [hf]
 rw [if_neg (show ¬ (none : Option Nat).isSome = true by decide)]
 rw [hx'] at HFI
 obtain ⟨nl, hnl⟩ : ∃ nl, m.names.length = nl := ⟨_, rfl⟩
 by_cases hbig : 4096 ≤ m.names.length
 ·rw [if_pos hbig]
  rw [hnl] at hbig c2
  clear hA hrw hF hd HTH hf hx' h
  rw [hnl] at HFI
  go_enter Tryz.func56, Tryz.ntmps56
  go_wp2_with (fail)
  refine HRT.out.mono ?_
  rintro e w1 ⟨rfl, rfl⟩
  go_wp2_with (fail)
  refine HFI.out.mono ?_
  rintro e w1 ⟨rfl, rfl⟩
  go_wp2_with (fail)
  go_ret
  exact ⟨rfl, RfTo.same H.out (Zc.refl _ _) H.out.ro⟩
 rw [if_neg hbig]
 rw [hnl] at hbig c2 HFI
 obtain ⟨tc, htc⟩ : ∃ tc, m.thing.2 = tc := ⟨_, rfl⟩
 rw [htc] at HTH
 have HTC := hid htc
 by_cases hz : tc = 0
 ·rw [if_pos (show m.thing.2 = 0 by rw [htc]; exact hz)]
  subst hz
  clear h hA hrw hF hd hf hx' htc
  go_enter Tryz.func56, Tryz.ntmps56
  go_wp2_with (fail)
  refine HRT.out.mono ?_
  rintro e w1 ⟨rfl, rfl⟩
  go_wp2_with (fail)
  refine HFI.out.mono ?_
  rintro e w1 ⟨rfl, rfl⟩
  go_wp2_with (fail)
  refine HTH.out.mono ?_
  rintro e w2 ⟨rfl, X, hX, hat, hs⟩
  obtain ⟨FA, fc, hFA⟩ := Z8 hat.files
  have hXf : X.files = m.files := by rw [hX]; exact (Jc m).1
  have hfl : X.files.length ≤ 100000 := by rw [hXf]; exact HF.out.files
  have c1 : ∀ w', Grows w2 w' → w'.cell? ⟨r, 1, none⟩ = some (.slice FA X.files.length fc) := fun w' hg => hFA ▸ (hg.whole hat.top).cell 1
  have HC1 := hid c1
  have c1w := c1 w2 (Grows.refl _)
  have HAT := hid (And.intro hat (And.intro hs hFA))
  have HX := hid (And.intro hX hXf)
  obtain ⟨fl, hfle⟩ : ∃ fl, X.files.length = fl := ⟨_, rfl⟩
  have HFL := hid hfle
  rw [hfle] at hfl c1w HC1
  have HR2 := hid (Zd (hFA ▸ hat.files) (Zb w2 (.cells #[.string ⟨#[]⟩, .int .i64 0] 82)))
  rw [hfle] at HR2
  have hob : (Value.slice FA fl fc).ownBlock = fv.ownBlock := by rw [hFA, hfle]
  have HOB := hid hob
  have htopf := (show ∀ w5, (w2.alloc (.cells #[.string ⟨#[]⟩, .int .i64 0] 82)).grownBy w5 (Value.slice FA fl fc).ownBlock → Zc (fun k => fv.ownBlock = some k) w2 w5 ∧ Whole w5 r 64 (Y3 X fv nv kv pv) from fun w5 hg5 => by
   have hsp : Zc (fun k => fv.ownBlock = some k) w2 w5 := Zc.grown (Zc.grows (Zb w2 (.cells #[.string ⟨#[]⟩, .int .i64 0] 82))) hg5 fun g hg => hob ▸ hg
   exact ⟨hsp, hat.top.same (hsp.same r hat.top.lt fun e => Ym hat.top hat.files (by decide) e)⟩)
  have HTOPF := hid htopf
  have hwf : IntKind.i64.wrap ((fl : Int) + 1 - 1) = fl := by rw [IntWalk.i64_in _ (by omega)]; omega
  have hwf2 : IntKind.i64.wrap (fl : Int) = fl := IntWalk.i64_in _ (by omega)
  clear hX hat hs hFA c1 hXf hfle hob htopf
  go_wp2_with (first
   | (at_builtin
      refine Z0 rfl (.tmp 34) (.tmp 36) 60 rfl 0 82 i1 (.agg #[.string ⟨#[]⟩, .int .i64 0]) 2 24 Tryz.underlying60 HI1.out.1 HI1.out.2.1 HI1.out.2.2.1 HI1.out.2.2.2 rfl (by decide) rfl
       HR2.out rfl (Zay _ _ _) (fun h => by cases h) (Zfr ⟨[], 0⟩) (fl + 1) rfl (by unfold maxLen; omega) (by omega) (Nat.zero_le _) ?_
      intro FB fd w5 hr5 hg5 hat5
      have c5 : w5.cell? ⟨r, 1, none⟩ = some (.slice FA fl fc) := by have := ((HTOPF.out w5 hg5).2).cell 1; rw [this, HAT.out.2.2, ← HFL.out]; rfl
      have f5 : w5.frozen? ⟨r, 1, none⟩ = false := ((HTOPF.out w5 hg5).2).free 1
      have HR5 := hid (And.intro hr5 (And.intro hg5 hat5))
      clear hr5 hg5 hat5))
  have hfa := HAT.out.1.filedA (p' := .slice FB (fl + 1) fd) (fs := X.files ++ [⟨[], 0⟩]) (HTOPF.out w5 HR5.out.2.1).1 (by
   rw [List.length_append, HFL.out, List.flatMap_append]
   show w5.ownsRow 0 82 2 _ (fl + 1) (X.files.flatMap flC ++ (flC ⟨[], 0⟩ ++ []))
   rw [List.append_nil]
   exact HR5.out.1) (HR5.out.2.2.imp (fun h => h.trans HOB.out) fun h => ⟨_, h, Z1 _ _⟩)
  have HFA := hid hfa
  have hnm := Zex _ (.made n fl) hfa.1 (by
   show X.names.length ≤ 100000 ∧ X.pend.length ≤ 100000
   have := Jc m
   rw [HX.out.1, this.2.1, this.2.2.2.1]
   exact ⟨HF.out.names, HF.out.pend⟩)
  have HNM := hid (show Calls Tryz.prog 102 #[.pointer (some ⟨r, 0, none⟩), .agg #[.int .i64 1, .string ⟨n.toArray⟩, .string ⟨#[]⟩, .int .i64 (fl : Int)]] (w5.setCell ⟨r, 1, none⟩ (.slice FB (fl + 1) fd)) _ from hnm)
  clear hfa hnm
  refine HNM.out.mono ?_
  rintro e w7 ⟨rfl, hto⟩
  have HTO := hid hto
  clear hto
  go_wp2_with (fail)
  go_ret
  refine ⟨rfl, ?_⟩
  have hfin := RfTo.behind H.out.ro HAT.out.2.1 (RfTo.trans HFA.out.2 (fun k hk => hk.imp id fun e => e.1) HTO.out)
  rw [show m.files.length = fl by rw [← HX.out.2]; exact HFL.out, ← HX.out.2, ← HX.out.1]
  exact hfin
 ·rw [if_neg (show ¬ m.thing.2 = 0 by rw [htc]; exact hz)]
  have hzb : (tc == 0) = false := by rw [beq_eq_false_iff_ne]; exact hz
  clear h hA hrw hF hd hf hx' htc
  go_enter Tryz.func56, Tryz.ntmps56
  go_wp2_with (fail)
  refine HRT.out.mono ?_
  rintro e w1 ⟨rfl, rfl⟩
  go_wp2_with (fail)
  refine HFI.out.mono ?_
  rintro e w1 ⟨rfl, rfl⟩
  go_wp2_with (fail)
  refine HTH.out.mono ?_
  rintro e w2 ⟨rfl, X, hX, hat, hs⟩
  have HAT := hid (And.intro hat hs)
  have HX := hid hX
  clear hat hs hX
  go_wp2_with (fail)
  go_ret
  refine ⟨by rw [HTC.out]; rfl, ?_⟩
  rw [← HX.out]
  exact RfTo.same HAT.out.1 HAT.out.2 H.out.ro
end
end Go.Proofs.YtlldcogkcjnejaaGreat
