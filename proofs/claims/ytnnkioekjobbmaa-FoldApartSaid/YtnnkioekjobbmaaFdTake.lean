/-
  take of fold's heap.
-/
import Derived.Test.YtnnkioekjobbmaaFdPut
import Derived.Test.YtnnkioekjobbmaaFactsTail
namespace Go.Proofs.Ytnnkioekjobbmaa
open Go.RowKit
set_option linter.unusedVariables false
set_option linter.unusedSimpArgs false
attribute [local irreducible] wpF

theorem results_take {fn : Func} {p q : Tmp} (h : fn.results = #[.tmp q, .cell p 33]) (tmps : Array Value) (w : World) (g : Nat) (t : TypeId) (u0 u1 u2 u3 b : Value)
    (hp : tmps.getD p undef = .pointer (some ⟨g, 0, none⟩)) (hq : tmps.getD q undef = b) (hg : Whole w g t #[u0, u1, u2, u3]) :
    (results fn tmps).run Try.prog w = .ok (.tuple #[b, .agg #[u0, u1, u2, u3]]) w := by
  have hp' : tmps[p]?.getD undef = .pointer (some ⟨g, 0, none⟩) := by simpa using hp
  have hq' : tmps[q]?.getD undef = b := by simpa using hq
  have hi : (Try.prog.info? 33).map (·.size) = some 4 := by kernel_rfl
  simp [results, h, hp', hq', asAddr, run_loadVar_row w g t 33 #[u0, u1, u2, u3] (0, 0) _ hg Try.underlying33 rfl hi]
set_option maxRecDepth 100000 in
set_option maxHeartbeats 4000000 in
theorem take_any {W0 : World} {h : Nat} {l : List El} {K : Nat → Prop} {w : World} (hh : HpK W0 w h l K) (hK : ∀ k, w.heap.size ≤ k → K k) (hlo : ∀ k, K k → W0.heap.size ≤ k) (hl : 0 < l.length) (hp : IsHeap ltE l.length l) :
    Calls Try.prog 24 #[.pointer (some ⟨h, 0, none⟩)] w fun e w' => ∃ x hd m, e = .returned (.tuple #[.int .i64 (x.no : Int), htV hd]) ∧ Took l m x hd ∧ (∀ y ∈ l, ltE y x = false) ∧ IsHeap ltE m.length m ∧ HpK W0 w' h m K ∧ Spares K w w' := by
  have hgood : GoodE l ∧ l.length ≤ 1000000 := by
    obtain ⟨A, c, q, _⟩ := hh
    exact ⟨q.good, q.few⟩
  obtain ⟨b0, hb0⟩ : ∃ b, w.heap.size = b := ⟨_, rfl⟩
  have hg1 := grows_alloc w (.cells #[.int .i64 0, .string ⟨#[]⟩, .int .i64 0, .int .i64 0] 33)
  have hm1 := Whole.made w 33 #[.int .i64 0, .string ⟨#[]⟩, .int .i64 0, .int .i64 0]
  obtain ⟨W1, hW1⟩ : ∃ W, w.alloc (.cells #[.int .i64 0, .string ⟨#[]⟩, .int .i64 0, .int .i64 0] 33) = W := ⟨_, rfl⟩
  have hz1 : W1.heap.size = w.heap.size + 1 := by rw [← hW1, World.size_alloc]
  rw [hW1] at hg1 hm1
  rw [hb0] at hm1
  obtain ⟨K1, hK1⟩ : ∃ K1 : Nat → Prop, K1 = fun k => K k ∧ k ≠ b0 := ⟨_, rfl⟩
  have hh1 : HpK W0 W1 h l K1 := by
    rw [hK1]
    exact (hh.wider (K' := fun k => K k ∧ k ≠ b0) fun k hk hkk => ⟨hkk, by omega⟩).grow hg1
  have HK := Lib.hid (show (∀ k, W1.heap.size ≤ k → K1 k) ∧ (∀ k, K1 k → W0.heap.size ≤ k) ∧ (∀ k, K1 k → K k) ∧ ¬ K1 b0 ∧ b0 < W1.heap.size ∧ K b0 ∧ ∀ k, w.heap.size ≤ k → K k from by
    rw [hK1]
    exact ⟨fun k hk => ⟨hK k (by omega), by omega⟩, fun k hk => hlo k hk.1, fun k hk => hk.1, fun q => q.2 rfl, by omega, hK b0 (by omega), hK⟩)
  have HP := Lib.hid (hpop_any hh1 HK.out.2.1 hl hp)
  have HL := Lib.hid (And.intro hgood (And.intro hg1 hm1))
  have HLO := Lib.hid hlo
  clear hh hK hlo hl hp hgood hg1 hm1 hz1 hK1 hh1
  go_enter Try.func24, Try.ntmps24
  go_wp2_with (first | rw [hW1] | fail)

  refine HP.out.mono ?_
  rintro e w2 ⟨x, m', rfl, p1, p2, p3, ⟨p4, p5, p6⟩, p7⟩
  obtain ⟨hx1, hx2⟩ := HL.out.1.1.each x (p1.mem_iff.2 List.mem_cons_self)
  obtain ⟨hd, t, hht⟩ : ∃ a r, x.hs = a :: r := by
    rcases hxs : x.hs with _ | ⟨a, r⟩
    · exact absurd hxs hx1
    · exact ⟨a, r, rfl⟩
  have hold : Grows W0 w2 := by
    obtain ⟨A, c, q, _⟩ := p4
    exact q.old
  have hrow := p5.row
  rw [hht] at hrow
  obtain ⟨hn0, hbl, hcs⟩ := hrow.top
  obtain ⟨c0, c1, c2, c3⟩ := hcs w2 hold
  have hcap := hrow.cap
  have hxb := p5.blk
  have hfew := p5.few
  obtain ⟨xn, xb, xa, n, c, xh⟩ := x
  obtain ⟨q0, q1, q2, q3⟩ := hd
  dsimp only [elV] at hht hxb hn0 c0 c1 c2 c3 hcap hfew hrow
  subst hht
  dsimp only [elV]
  have hta := assertE xb w2
  have d1 := hxb.cell 1
  simp only [List.getElem?_toArray, List.getElem?_cons_zero, List.getElem?_cons_succ] at d1
  have k0 : (0 : Int) < (n : Int) := by omega
  have k1 : (1 : Int) ≤ (n : Int) := by omega
  obtain ⟨W3, hW3⟩ : ∃ W, w2.alloc (.cells #[.int .i64 q0, .string ⟨q1.toArray⟩, .int .i64 q2, .int .i64 q3] 33) = W := ⟨_, rfl⟩
  have hg3 : Grows w2 W3 := hW3 ▸ grows_alloc _ _
  have hm3 : Whole W3 w2.heap.size 33 #[.int .i64 q0, .string ⟨q1.toArray⟩, .int .i64 q2, .int .i64 q3] := by rw [← hW3]; exact Whole.made _ _ _
  have hz3 : W3.heap.size = w2.heap.size + 1 := by rw [← hW3, World.size_alloc]
  obtain ⟨b5, hb5⟩ : ∃ b, w2.heap.size = b := ⟨_, rfl⟩
  rw [hb5] at hm3
  have hxb3 := hg3.whole hxb
  have d3 := hxb3.cell 1
  simp only [List.getElem?_toArray, List.getElem?_cons_zero, List.getElem?_cons_succ] at d3
  have f3 := hxb3.free 1
  have HX := Lib.hid (And.intro p1 (And.intro p2 (And.intro p3 (And.intro p4 (And.intro p5 (And.intro p6 p7))))))
  have HY := Lib.hid (And.intro hg3 (And.intro hm3 (And.intro hz3 (And.intro hb5 (And.intro hxb3 (And.intro hrow (And.intro hcap hfew)))))))
  clear p1 p2 p3 p4 p5 p6 p7 hx1 hx2 hold hrow hn0 hbl hcs hcap hxb hfew hg3 hm3 hz3 hxb3
  by_cases hc1 : c = 1
  · subst hc1
    obtain ⟨W4, hW4⟩ : ∃ W, W3.setCell ⟨xb, 1, none⟩ (.slice (some xa) (n - 1) 0) = W := ⟨_, rfl⟩
    obtain ⟨K2, hK2⟩ : ∃ K2 : Nat → Prop, K2 = fun k => K1 k ∧ k ≠ b5 := ⟨_, rfl⟩
    have HQ := Lib.hid (show HpK W0 W4 h m' (fun k => K2 k ∧ k ≠ xb) ∧ (∀ k, W4.heap.size ≤ k → K2 k) ∧ (∀ k, K2 k → W0.heap.size ≤ k) ∧ Whole W4 xb 53 #[.int .i64 (xn : Int), .slice (some xa) (n - 1) 0] ∧ t.length = n - 1 ∧ (t ≠ [] → ElIn W0 W4 (⟨xn, xb, xa, n - 1, 0, t⟩ : El)) ∧ K2 xb ∧ (t ≠ [] → GoodE (m' ++ [(⟨xn, xb, xa, n - 1, 0, t⟩ : El)])) ∧ m'.length < 1000000 ∧ Whole W4 b5 33 #[.int .i64 q0, .string ⟨q1.toArray⟩, .int .i64 q2, .int .i64 q3] ∧ Whole W4 b0 33 #[.int .i64 0, .string ⟨#[]⟩, .int .i64 0, .int .i64 0] ∧ (∀ k, K2 k → K1 k) ∧ ¬ K2 b5 ∧ Spares K1 W3 W4 from by
      obtain ⟨p1, p2, p3, p4, p5, p6, p7⟩ := HX.out
      obtain ⟨hg3, hm3, hz3, hb5, hxb3, hrow, hcap, hfew⟩ := HY.out
      have hs4 : Spares (fun k => k = xb) W3 W4 := by rw [← hW4]; exact Spares.setCell (own := fun k => k = xb) (p := ⟨xb, 1, none⟩) (Spares.refl _ _) rfl _
      have hz4 : W4.heap.size = W3.heap.size := by rw [← hW4]; simp
      have hxl := p5.blk.lt
      dsimp only at hxl p6
      have hb4 : Whole W4 xb 53 #[.int .i64 (xn : Int), .slice (some xa) (n - 1) 0] := by rw [← hW4]; exact hxb3.put 1 _
      have hlow := p5.low
      have hg0 := (HL.out.1.1.perm p1)
      have hap := (List.pairwise_cons.1 hg0.apart).1
      have hri := (hg0.each _ List.mem_cons_self).2
      have hb0x : b0 ≠ xb := fun e => HK.out.2.2.2.1 (e ▸ p6)
      refine ⟨?_, ?_, ?_, hb4, ?_, ?_, ?_, ?_, ?_, ?_, ?_, ?_, ?_, hs4.wider fun k _ e => e ▸ p6⟩
      · rw [hK2]
        exact (((p4.wider (K' := fun k => (K1 k ∧ k ≠ b5) ∧ k ≠ xb) fun k hk hkk => ⟨⟨hkk.1, by omega⟩, hkk.2⟩).grow hg3).off hs4 (fun k _ hk e => hk.2 e) fun k e => e ▸ hlow)
      · rw [hK2]
        exact fun k hk => ⟨HK.out.1 k (by have := p7.size; omega), by omega⟩
      · rw [hK2]
        exact fun k hk => HK.out.2.1 k hk.1
      · have := hrow.len
        simp at this
        omega
      · exact fun h0 => ⟨hb4, absurd (List.eq_nil_of_length_eq_zero (by have := hrow.len; simp at this; omega)) h0, hlow, ⟨by have := hfew.1; dsimp only; omega, hfew.2⟩⟩
      · rw [hK2]
        exact ⟨p6, by omega⟩
      · exact fun h0 => hg0.tail.snoc (by exact h0) (List.pairwise_cons.1 hri).2 fun y hy => ⟨fun e => (hap y hy).1 e.symm, fun e => (hap y hy).2 e.symm⟩
      · have h1 := p1.length_eq
        have h2 := HL.out.1.2
        rw [List.length_cons] at h1
        omega
      · exact (hs4.same b5 hm3.lt (by omega)).trans hm3
      · exact (hs4.same b0 (by have := HK.out.2.2.2.2.1; have := p7.size; omega) hb0x).trans ((hg3.block b0 (by have := HK.out.2.2.2.2.1; have := p7.size; omega)).trans ((p7.same b0 HK.out.2.2.2.2.1 HK.out.2.2.2.1).trans HL.out.2.2))
      · rw [hK2]
        exact fun k hk => hk.1
      · rw [hK2]
        exact fun q => q.2 rfl)
    have HPU := Lib.hid (put_any (⟨xn, xb, xa, n - 1, 0, t⟩ : El) HQ.out.1 HQ.out.2.1 HQ.out.2.2.1 HQ.out.2.2.2.1 HQ.out.2.2.2.2.1 HQ.out.2.2.2.2.2.1 HQ.out.2.2.2.2.2.2.1 HQ.out.2.2.2.2.2.2.2.1 HQ.out.2.2.2.2.2.2.2.2.1 HX.out.2.1)
    dsimp only [elV] at HPU
    clear hK2
    go_wp2_with (first | rw [hW3] | rw [hW4] | fail)
    clear hW3 hW4 hW1
    refine HPU.out.mono ?_
    rintro e w5 ⟨rfl, l', u1, u2, u3, u4, u5⟩
    have H5 := Lib.hid (show Whole w5 xb 53 #[.int .i64 (xn : Int), .slice (some xa) (n - 1) 0] ∧ Whole w5 b5 33 #[.int .i64 q0, .string ⟨q1.toArray⟩, .int .i64 q2, .int .i64 q3] ∧ Whole w5 b0 33 #[.int .i64 0, .string ⟨#[]⟩, .int .i64 0, .int .i64 0] from
      ⟨u4, (u5.same b5 HQ.out.2.2.2.2.2.2.2.2.2.1.lt HQ.out.2.2.2.2.2.2.2.2.2.2.2.2.1).trans HQ.out.2.2.2.2.2.2.2.2.2.1, (u5.same b0 HQ.out.2.2.2.2.2.2.2.2.2.2.1.lt fun q => HK.out.2.2.2.1 (HQ.out.2.2.2.2.2.2.2.2.2.2.2.1 b0 q)).trans HQ.out.2.2.2.2.2.2.2.2.2.2.1⟩)
    have HU := Lib.hid (And.intro u1 (And.intro u2 (And.intro u3 u5)))
    clear u1 u2 u3 u4 u5 hta d1 d3 f3 c0 c1 c2 c3
    obtain ⟨xi, hxi⟩ : ∃ z : Int, (xn : Int) = z := ⟨_, rfl⟩
    have HXI := Lib.hid hxi
    rw [hxi] at H5
    clear hxi
    go_wp2_with (fail)
    refine wp_region_facts_tail (E := Grows) 6 [valFact (.pointer (some ⟨xb, 0, none⟩)), valFact (.pointer (some ⟨xb, 0, none⟩)), valFact (.pointer (some ⟨xb, 0, none⟩)), valFact (.int .i64 xi), valFact (.agg #[.int .i64 q0, .string ⟨q1.toArray⟩, .int .i64 q2, .int .i64 q3]), valFact (.int .i64 xi)] mixed (by kernel_rfl) (fun _ _ _ => Grows.trans) (grows_drew _) ?_
    simp only [List.take_succ_cons, List.take_zero, List.drop_succ_cons, List.drop_zero]
    refine f_val (.pointer (some ⟨xb, 0, none⟩)) (by rfl) ?_ ?_
    · intro w' hC; clear hC; go_simp
    simp only [Act.put, List.setIfInBounds_toArray, List.set_cons_zero, List.set_cons_succ]
    refine f_val (.pointer (some ⟨xb, 0, none⟩)) (by rfl) ?_ ?_
    · intro w' hC; clear hC; go_simp
    simp only [Act.put, List.setIfInBounds_toArray, List.set_cons_zero, List.set_cons_succ]
    refine f_val (.pointer (some ⟨xb, 0, none⟩)) (by rfl) ?_ ?_
    · intro w' hC; clear hC; go_simp
    simp only [Act.put, List.setIfInBounds_toArray, List.set_cons_zero, List.set_cons_succ]
    refine f_val (.int .i64 xi) (by rfl) ?_ ?_
    · intro w' hC; have z0 := (hC.whole H5.out.1).cell 0; simp only [List.getElem?_toArray, List.getElem?_cons_zero, List.getElem?_cons_succ] at z0; clear hC; go_simp
    simp only [Act.put, List.setIfInBounds_toArray, List.set_cons_zero, List.set_cons_succ]
    refine f_val (.agg #[.int .i64 q0, .string ⟨q1.toArray⟩, .int .i64 q2, .int .i64 q3]) (by rfl) ?_ ?_
    · intro w' hC; have qq := hC.whole H5.out.2.1; have z0 := qq.cell 0; have z1 := qq.cell 1; have z2 := qq.cell 2; have z3 := qq.cell 3; clear qq; simp only [List.getElem?_toArray, List.getElem?_cons_zero, List.getElem?_cons_succ] at z0 z1 z2 z3; clear hC; go_simp
    simp only [Act.put, List.setIfInBounds_toArray, List.set_cons_zero, List.set_cons_succ]
    refine f_val (.int .i64 xi) (by rfl) ?_ ?_
    · intro w' hC; clear hC; go_simp
    simp only [Act.put, List.setIfInBounds_toArray, List.set_cons_zero, List.set_cons_succ]
    refine wpF_end ?_
    intro w6 hC hks
    have HCw6 := Lib.hid hC
    clear hC hks

    have hm6 := HCw6.out.whole H5.out.2.2
    have z0 := hm6.cell 0
    have z1 := hm6.cell 1
    have z2 := hm6.cell 2
    have z3 := hm6.cell 3
    simp only [List.getElem?_toArray, List.getElem?_cons_zero, List.getElem?_cons_succ] at z0 z1 z2 z3
    have y0 := hm6.free 0
    have y1 := hm6.free 1
    have y2 := hm6.free 2
    have y3 := hm6.free 3
    have HM6 := Lib.hid hm6
    clear hm6
    go_wp2_with (fail)
    have hm7 : Whole ((((w6.setCell ⟨b0, 0, none⟩ (.int .i64 q0)).setCell ⟨b0, 1, none⟩ (.string ⟨q1.toArray⟩)).setCell ⟨b0, 2, none⟩ (.int .i64 q2)).setCell ⟨b0, 3, none⟩ (.int .i64 q3)) b0 33 #[.int .i64 q0, .string ⟨q1.toArray⟩, .int .i64 q2, .int .i64 q3] := (((HM6.out.put 0 _).put 1 _).put 2 _).put 3 _
    have hs7 : Spares (fun k => k = b0) w6 ((((w6.setCell ⟨b0, 0, none⟩ (.int .i64 q0)).setCell ⟨b0, 1, none⟩ (.string ⟨q1.toArray⟩)).setCell ⟨b0, 2, none⟩ (.int .i64 q2)).setCell ⟨b0, 3, none⟩ (.int .i64 q3)) := Spares.setCell (own := fun k => k = b0) (p := ⟨b0, 3, none⟩) (Spares.setCell (own := fun k => k = b0) (p := ⟨b0, 2, none⟩) (Spares.setCell (own := fun k => k = b0) (p := ⟨b0, 1, none⟩) (Spares.setCell (own := fun k => k = b0) (p := ⟨b0, 0, none⟩) (Spares.refl _ _) rfl _) rfl _) rfl _) rfl _
    generalize ((((w6.setCell ⟨b0, 0, none⟩ (.int .i64 q0)).setCell ⟨b0, 1, none⟩ (.string ⟨q1.toArray⟩)).setCell ⟨b0, 2, none⟩ (.int .i64 q2)).setCell ⟨b0, 3, none⟩ (.int .i64 q3)) = W7 at hm7 hs7 ⊢
    refine bodyPost_ret (results_take rfl _ _ b0 33 (.int .i64 q0) (.string ⟨q1.toArray⟩) (.int .i64 q2) (.int .i64 q3) (.int .i64 xi) rfl rfl hm7) rfl ?_
    obtain ⟨u1, u2, u3, u5⟩ := HU.out
    obtain ⟨p1, p2, p3, p4, p5, p6, p7⟩ := HX.out
    have ha : Spares K w w2 := (Spares.grows HL.out.2.1).trans (p7.wider fun k _ hk => HK.out.2.2.1 k hk)
    have hb : Spares K W3 W4 := HQ.out.2.2.2.2.2.2.2.2.2.2.2.2.2.wider fun k _ hk => HK.out.2.2.1 k hk
    have hc : Spares K W4 w5 := u5.wider fun k _ hk => HK.out.2.2.1 k (HQ.out.2.2.2.2.2.2.2.2.2.2.2.1 k hk)
    have hsp : Spares K w W7 := (((ha.trans (Spares.grows HY.out.1)).trans hb).trans (hc.trans (Spares.grows HCw6.out))).trans (hs7.wider fun k _ e => e ▸ HK.out.2.2.2.2.2.1)
    refine ⟨⟨xn, xb, xa, n, 1, ⟨q0, q1, q2, q3⟩ :: t⟩, ⟨q0, q1, q2, q3⟩, l', ?_, took HL.out.1.1 p1 rfl (x' := (⟨xn, xb, xa, n - 1, 0, t⟩ : El)) rfl rfl rfl u1, fun y hy => ?_, u2, ?_, hsp⟩
    · rw [← HXI.out]
      rfl
    · rcases List.mem_cons.1 (p1.mem_iff.1 hy) with rfl | hy
      · exact swoE.irrefl _
      · exact p3 y hy
    · exact ((u3.grow HCw6.out).off hs7 (fun k _ hk e => HK.out.2.2.2.1 (e ▸ HQ.out.2.2.2.2.2.2.2.2.2.2.2.1 k hk)) fun k e => by
        subst e
        exact HLO.out _ HK.out.2.2.2.2.2.1).wider fun k _ hk => HK.out.2.2.1 k (HQ.out.2.2.2.2.2.2.2.2.2.2.2.1 k hk)

  · obtain ⟨W4, hW4⟩ : ∃ W, W3.setCell ⟨xb, 1, none⟩ (.slice (some { block := xa.block, off := xa.off + 4 }) (n - 1) (c - 1)) = W := ⟨_, rfl⟩
    obtain ⟨K2, hK2⟩ : ∃ K2 : Nat → Prop, K2 = fun k => K1 k ∧ k ≠ b5 := ⟨_, rfl⟩
    have HQ := Lib.hid (show HpK W0 W4 h m' (fun k => K2 k ∧ k ≠ xb) ∧ (∀ k, W4.heap.size ≤ k → K2 k) ∧ (∀ k, K2 k → W0.heap.size ≤ k) ∧ Whole W4 xb 53 #[.int .i64 (xn : Int), .slice (some { block := xa.block, off := xa.off + 4 }) (n - 1) (c - 1)] ∧ t.length = n - 1 ∧ (t ≠ [] → ElIn W0 W4 (⟨xn, xb, { block := xa.block, off := xa.off + 4 }, n - 1, (c - 1), t⟩ : El)) ∧ K2 xb ∧ (t ≠ [] → GoodE (m' ++ [(⟨xn, xb, { block := xa.block, off := xa.off + 4 }, n - 1, (c - 1), t⟩ : El)])) ∧ m'.length < 1000000 ∧ Whole W4 b5 33 #[.int .i64 q0, .string ⟨q1.toArray⟩, .int .i64 q2, .int .i64 q3] ∧ Whole W4 b0 33 #[.int .i64 0, .string ⟨#[]⟩, .int .i64 0, .int .i64 0] ∧ (∀ k, K2 k → K1 k) ∧ ¬ K2 b5 ∧ Spares K1 W3 W4 from by
      obtain ⟨p1, p2, p3, p4, p5, p6, p7⟩ := HX.out
      obtain ⟨hg3, hm3, hz3, hb5, hxb3, hrow, hcap, hfew⟩ := HY.out
      have hs4 : Spares (fun k => k = xb) W3 W4 := by rw [← hW4]; exact Spares.setCell (own := fun k => k = xb) (p := ⟨xb, 1, none⟩) (Spares.refl _ _) rfl _
      have hz4 : W4.heap.size = W3.heap.size := by rw [← hW4]; simp
      have hxl := p5.blk.lt
      dsimp only at hxl p6
      have hb4 : Whole W4 xb 53 #[.int .i64 (xn : Int), .slice (some { block := xa.block, off := xa.off + 4 }) (n - 1) (c - 1)] := by rw [← hW4]; exact hxb3.put 1 _
      have hlow := p5.low
      have hg0 := (HL.out.1.1.perm p1)
      have hap := (List.pairwise_cons.1 hg0.apart).1
      have hri := (hg0.each _ List.mem_cons_self).2
      have hb0x : b0 ≠ xb := fun e => HK.out.2.2.2.1 (e ▸ p6)
      refine ⟨?_, ?_, ?_, hb4, ?_, ?_, ?_, ?_, ?_, ?_, ?_, ?_, ?_, hs4.wider fun k _ e => e ▸ p6⟩
      · rw [hK2]
        exact (((p4.wider (K' := fun k => (K1 k ∧ k ≠ b5) ∧ k ≠ xb) fun k hk hkk => ⟨⟨hkk.1, by omega⟩, hkk.2⟩).grow hg3).off hs4 (fun k _ hk e => hk.2 e) fun k e => e ▸ hlow)
      · rw [hK2]
        exact fun k hk => ⟨HK.out.1 k (by have := p7.size; omega), by omega⟩
      · rw [hK2]
        exact fun k hk => HK.out.2.1 k hk.1
      · have := hrow.len
        simp at this
        omega
      · exact fun h0 => ⟨hb4, (show Hts W0 (some { block := xa.block, off := xa.off + 4 }) (n - 1) (c - 1) t from by have := hrow.behind (by have h1 := hrow.len; simp at h1; have h2 := List.length_pos_iff.2 h0; omega); rwa [Addr.add_succ'] at this), hlow, ⟨by have := hfew.1; dsimp only; omega, hfew.2⟩⟩
      · rw [hK2]
        exact ⟨p6, by omega⟩
      · exact fun h0 => hg0.tail.snoc (by exact h0) (List.pairwise_cons.1 hri).2 fun y hy => ⟨fun e => (hap y hy).1 e.symm, fun e => (hap y hy).2 e.symm⟩
      · have h1 := p1.length_eq
        have h2 := HL.out.1.2
        rw [List.length_cons] at h1
        omega
      · exact (hs4.same b5 hm3.lt (by omega)).trans hm3
      · exact (hs4.same b0 (by have := HK.out.2.2.2.2.1; have := p7.size; omega) hb0x).trans ((hg3.block b0 (by have := HK.out.2.2.2.2.1; have := p7.size; omega)).trans ((p7.same b0 HK.out.2.2.2.2.1 HK.out.2.2.2.1).trans HL.out.2.2))
      · rw [hK2]
        exact fun k hk => hk.1
      · rw [hK2]
        exact fun q => q.2 rfl)
    have HPU := Lib.hid (put_any (⟨xn, xb, { block := xa.block, off := xa.off + 4 }, n - 1, (c - 1), t⟩ : El) HQ.out.1 HQ.out.2.1 HQ.out.2.2.1 HQ.out.2.2.2.1 HQ.out.2.2.2.2.1 HQ.out.2.2.2.2.2.1 HQ.out.2.2.2.2.2.2.1 HQ.out.2.2.2.2.2.2.2.1 HQ.out.2.2.2.2.2.2.2.2.1 HX.out.2.1)
    dsimp only [elV] at HPU
    clear hK2
    go_wp2_with (first | rw [hW3] | rw [hW4] | fail)
    clear hW3 hW4 hW1
    refine HPU.out.mono ?_
    rintro e w5 ⟨rfl, l', u1, u2, u3, u4, u5⟩
    have H5 := Lib.hid (show Whole w5 xb 53 #[.int .i64 (xn : Int), .slice (some { block := xa.block, off := xa.off + 4 }) (n - 1) (c - 1)] ∧ Whole w5 b5 33 #[.int .i64 q0, .string ⟨q1.toArray⟩, .int .i64 q2, .int .i64 q3] ∧ Whole w5 b0 33 #[.int .i64 0, .string ⟨#[]⟩, .int .i64 0, .int .i64 0] from
      ⟨u4, (u5.same b5 HQ.out.2.2.2.2.2.2.2.2.2.1.lt HQ.out.2.2.2.2.2.2.2.2.2.2.2.2.1).trans HQ.out.2.2.2.2.2.2.2.2.2.1, (u5.same b0 HQ.out.2.2.2.2.2.2.2.2.2.2.1.lt fun q => HK.out.2.2.2.1 (HQ.out.2.2.2.2.2.2.2.2.2.2.2.1 b0 q)).trans HQ.out.2.2.2.2.2.2.2.2.2.2.1⟩)
    have HU := Lib.hid (And.intro u1 (And.intro u2 (And.intro u3 u5)))
    clear u1 u2 u3 u4 u5 hta d1 d3 f3 c0 c1 c2 c3
    obtain ⟨xi, hxi⟩ : ∃ z : Int, (xn : Int) = z := ⟨_, rfl⟩
    have HXI := Lib.hid hxi
    rw [hxi] at H5
    clear hxi
    go_wp2_with (fail)
    refine wp_region_facts_tail (E := Grows) 6 [valFact (.pointer (some ⟨xb, 0, none⟩)), valFact (.pointer (some ⟨xb, 0, none⟩)), valFact (.pointer (some ⟨xb, 0, none⟩)), valFact (.int .i64 xi), valFact (.agg #[.int .i64 q0, .string ⟨q1.toArray⟩, .int .i64 q2, .int .i64 q3]), valFact (.int .i64 xi)] mixed (by kernel_rfl) (fun _ _ _ => Grows.trans) (grows_drew _) ?_
    simp only [List.take_succ_cons, List.take_zero, List.drop_succ_cons, List.drop_zero]
    refine f_val (.pointer (some ⟨xb, 0, none⟩)) (by rfl) ?_ ?_
    · intro w' hC; clear hC; go_simp
    simp only [Act.put, List.setIfInBounds_toArray, List.set_cons_zero, List.set_cons_succ]
    refine f_val (.pointer (some ⟨xb, 0, none⟩)) (by rfl) ?_ ?_
    · intro w' hC; clear hC; go_simp
    simp only [Act.put, List.setIfInBounds_toArray, List.set_cons_zero, List.set_cons_succ]
    refine f_val (.pointer (some ⟨xb, 0, none⟩)) (by rfl) ?_ ?_
    · intro w' hC; clear hC; go_simp
    simp only [Act.put, List.setIfInBounds_toArray, List.set_cons_zero, List.set_cons_succ]
    refine f_val (.int .i64 xi) (by rfl) ?_ ?_
    · intro w' hC; have z0 := (hC.whole H5.out.1).cell 0; simp only [List.getElem?_toArray, List.getElem?_cons_zero, List.getElem?_cons_succ] at z0; clear hC; go_simp
    simp only [Act.put, List.setIfInBounds_toArray, List.set_cons_zero, List.set_cons_succ]
    refine f_val (.agg #[.int .i64 q0, .string ⟨q1.toArray⟩, .int .i64 q2, .int .i64 q3]) (by rfl) ?_ ?_
    · intro w' hC; have qq := hC.whole H5.out.2.1; have z0 := qq.cell 0; have z1 := qq.cell 1; have z2 := qq.cell 2; have z3 := qq.cell 3; clear qq; simp only [List.getElem?_toArray, List.getElem?_cons_zero, List.getElem?_cons_succ] at z0 z1 z2 z3; clear hC; go_simp
    simp only [Act.put, List.setIfInBounds_toArray, List.set_cons_zero, List.set_cons_succ]
    refine f_val (.int .i64 xi) (by rfl) ?_ ?_
    · intro w' hC; clear hC; go_simp
    simp only [Act.put, List.setIfInBounds_toArray, List.set_cons_zero, List.set_cons_succ]
    refine wpF_end ?_
    intro w6 hC hks
    have HCw6 := Lib.hid hC
    clear hC hks

    have hm6 := HCw6.out.whole H5.out.2.2
    have z0 := hm6.cell 0
    have z1 := hm6.cell 1
    have z2 := hm6.cell 2
    have z3 := hm6.cell 3
    simp only [List.getElem?_toArray, List.getElem?_cons_zero, List.getElem?_cons_succ] at z0 z1 z2 z3
    have y0 := hm6.free 0
    have y1 := hm6.free 1
    have y2 := hm6.free 2
    have y3 := hm6.free 3
    have HM6 := Lib.hid hm6
    clear hm6
    go_wp2_with (fail)
    have hm7 : Whole ((((w6.setCell ⟨b0, 0, none⟩ (.int .i64 q0)).setCell ⟨b0, 1, none⟩ (.string ⟨q1.toArray⟩)).setCell ⟨b0, 2, none⟩ (.int .i64 q2)).setCell ⟨b0, 3, none⟩ (.int .i64 q3)) b0 33 #[.int .i64 q0, .string ⟨q1.toArray⟩, .int .i64 q2, .int .i64 q3] := (((HM6.out.put 0 _).put 1 _).put 2 _).put 3 _
    have hs7 : Spares (fun k => k = b0) w6 ((((w6.setCell ⟨b0, 0, none⟩ (.int .i64 q0)).setCell ⟨b0, 1, none⟩ (.string ⟨q1.toArray⟩)).setCell ⟨b0, 2, none⟩ (.int .i64 q2)).setCell ⟨b0, 3, none⟩ (.int .i64 q3)) := Spares.setCell (own := fun k => k = b0) (p := ⟨b0, 3, none⟩) (Spares.setCell (own := fun k => k = b0) (p := ⟨b0, 2, none⟩) (Spares.setCell (own := fun k => k = b0) (p := ⟨b0, 1, none⟩) (Spares.setCell (own := fun k => k = b0) (p := ⟨b0, 0, none⟩) (Spares.refl _ _) rfl _) rfl _) rfl _) rfl _
    generalize ((((w6.setCell ⟨b0, 0, none⟩ (.int .i64 q0)).setCell ⟨b0, 1, none⟩ (.string ⟨q1.toArray⟩)).setCell ⟨b0, 2, none⟩ (.int .i64 q2)).setCell ⟨b0, 3, none⟩ (.int .i64 q3)) = W7 at hm7 hs7 ⊢
    refine bodyPost_ret (results_take rfl _ _ b0 33 (.int .i64 q0) (.string ⟨q1.toArray⟩) (.int .i64 q2) (.int .i64 q3) (.int .i64 xi) rfl rfl hm7) rfl ?_
    obtain ⟨u1, u2, u3, u5⟩ := HU.out
    obtain ⟨p1, p2, p3, p4, p5, p6, p7⟩ := HX.out
    have ha : Spares K w w2 := (Spares.grows HL.out.2.1).trans (p7.wider fun k _ hk => HK.out.2.2.1 k hk)
    have hb : Spares K W3 W4 := HQ.out.2.2.2.2.2.2.2.2.2.2.2.2.2.wider fun k _ hk => HK.out.2.2.1 k hk
    have hc : Spares K W4 w5 := u5.wider fun k _ hk => HK.out.2.2.1 k (HQ.out.2.2.2.2.2.2.2.2.2.2.2.1 k hk)
    have hsp : Spares K w W7 := (((ha.trans (Spares.grows HY.out.1)).trans hb).trans (hc.trans (Spares.grows HCw6.out))).trans (hs7.wider fun k _ e => e ▸ HK.out.2.2.2.2.2.1)
    refine ⟨⟨xn, xb, xa, n, c, ⟨q0, q1, q2, q3⟩ :: t⟩, ⟨q0, q1, q2, q3⟩, l', ?_, took HL.out.1.1 p1 rfl (x' := (⟨xn, xb, { block := xa.block, off := xa.off + 4 }, n - 1, (c - 1), t⟩ : El)) rfl rfl rfl u1, fun y hy => ?_, u2, ?_, hsp⟩
    · rw [← HXI.out]
      rfl
    · rcases List.mem_cons.1 (p1.mem_iff.1 hy) with rfl | hy
      · exact swoE.irrefl _
      · exact p3 y hy
    · exact ((u3.grow HCw6.out).off hs7 (fun k _ hk e => HK.out.2.2.2.1 (e ▸ HQ.out.2.2.2.2.2.2.2.2.2.2.2.1 k hk)) fun k e => by
        subst e
        exact HLO.out _ HK.out.2.2.2.2.2.1).wider fun k _ hk => HK.out.2.2.1 k (HQ.out.2.2.2.2.2.2.2.2.2.2.2.1 k hk)

end Go.Proofs.Ytnnkioekjobbmaa
