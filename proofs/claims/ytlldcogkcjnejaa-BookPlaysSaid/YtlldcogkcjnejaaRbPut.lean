/-
  The document's answer to book: Put.
-/
import Derived.Test.YtlldcogkcjnejaaRbKeep
namespace Go.Proofs.Ytlldcogkcjnejaa
open Go.RowKit Go.Shelf Go.Maps Go.Sort
set_option linter.unusedVariables false
set_option linter.unusedSimpArgs false
theorem RbTo.after {w w1 w2 w' : World} {q : Nat} {A A1 : Option Addr} {l' : List Us} (hs : Spares (fun k => k = q) w w1) (ha : A1 = A ∨ ∀ ad, A1 = some ad → w.heap.size ≤ ad.block) (hg : Grows w1 w2) (h : RbTo w2 q A1 l' w') : RbTo w q A l' w' := by
  obtain ⟨A', c', h1, h2, h3⟩ := h
  refine ⟨A', c', h1, (hs.trans (Spares.grows hg)).trans h2, ?_⟩
  rcases h3 with rfl | h3
  · exact ha
  · exact .inr fun ad e => Nat.le_trans (Nat.le_trans hs.size hg.size) (h3 ad e)

/-- A part of the book's list, as an append reads it. -/
def Lies (w : World) (A : Option Addr) (l : List Us) : Prop := ∃ ad, A = some ad ∧ ∀ (t : Nat) (u : Value), (l.flatMap usE)[t]? = some u → w.cell? (ad.add t) = some u
theorem uss_keep {w w' : World} {A : Option Addr} {n c : Nat} {l : List Us} (h : Uss w A n c l) (hk : Keep3 w.heap.size w w') : Uss w' A n c l := by
  refine ⟨h.len, h.cap, h.bare, h.row.len, fun j v hj => ?_⟩
  obtain ⟨ad, e1, e2, e3⟩ := h.row.spot j v hj
  refine ⟨ad, e1, Nat.lt_of_lt_of_le e2 hk.sp.size, ?_⟩
  have hb := hk.sp.same _ e2 (by omega)
  unfold World.cell? at e3 ⊢
  rw [add_block] at *
  rw [hb]
  exact e3
theorem slice_cut {w : World} {A : Option Addr} {n c : Nat} {l : List Us} (h : Uss w A n c l) {i : Nat} (hi : i ≤ n) (hn : n ≤ 1000000) :
    (∀ w' : World, (Instr.sliceAt 40 (.slice A n c) none (some (.int .i64 (i : Int))) none).run Try.prog w' = .ok (.slice A i c) w') ∧
      ∃ (A2 : Option Addr) (m2 c3 : Nat), (∀ w' : World, (Instr.sliceAt 40 (.slice A n c) (some (.int .i64 (i : Int))) none none).run Try.prog w' = .ok (.slice A2 m2 c3) w') ∧ m2 = n - i ∧
        (0 < m2 → ∃ ad, A2 = some ad ∧ ∀ w'', Uss w'' A n c l → ∀ (t : Nat) (u : Value), ((l.drop i).flatMap usE)[t]? = some u → w''.cell? (ad.add t) = some u) := by
  have hcap := h.cap
  have hlen := h.len
  rcases A with _ | ad
  · have hc := h.bare rfl
    subst hc
    obtain rfl : n = 0 := by omega
    obtain rfl : i = 0 := by omega
    exact ⟨fun w' => by go_simp, none, 0, 0, fun w' => by go_simp, rfl, fun h => absurd h (by omega)⟩
  · have k0 : (0 : Int) ≤ (i : Int) := by omega
    have k1 : (i : Int) ≤ (n : Int) := by omega
    have k2 : (n : Int) ≤ (c : Int) := by omega
    have k3 : (i : Int) ≤ (c : Int) := by omega
    have hs0 : ∀ w', (Instr.sliceAt 40 (.slice (some ad) n c) (some (.int .i64 (i : Int))) none none).run Try.prog w' = .ok (.slice (if c = i then some ad else some (ad.add (i * 3))) (n - i) (c - i)) w' := fun w' => by go_simp
    refine ⟨fun w' => by go_simp, if c = i then some ad else some (ad.add (i * 3)), n - i, c - i, hs0, rfl, fun hp => ?_⟩
    rw [if_neg (by omega)]
    exact ⟨_, rfl, fun w'' hu => cells_drop hu i (by omega)⟩
theorem cell_lit {w : World} {g t : Nat} {k : Int} (h : Whole w g t #[.int .i64 k, .int .i64 0, .int .i64 0]) : ∀ (t : Nat) (u : Value), (([(⟨k, 0, 0⟩ : Us)]).flatMap usE)[t]? = some u → w.cell? ((⟨g, 0, none⟩ : Addr).add t) = some u := fun t u hu => by
  rw [add_zero', h.cell t, List.getElem?_toArray]
  exact hu
theorem drop_above {l : List Us} (hr : RiseU l) {i : Nat} {y : Us} {k : Int} (hy : l[i]? = some y) (hk : k < y.seg) : ∀ z ∈ l.drop i, k < z.seg := fun z hz => by
  obtain ⟨j, hj, e⟩ := List.mem_iff_getElem.1 hz
  rw [List.getElem_drop] at e
  obtain ⟨h1, h2⟩ := List.getElem?_eq_some_iff.1 hy
  rcases Nat.eq_zero_or_pos j with h | h
  · subst h
    simp only [Nat.add_zero] at e
    rw [h2] at e
    rw [← e]
    exact hk
  · have h3 := List.pairwise_iff_getElem.1 hr i (i + j) h1 (by rw [List.length_drop] at hj; omega) (by omega)
    rw [h2, e] at h3
    omega
theorem ins_at {l : List Us} (hr : RiseU l) {k : Int} {i : Nat} (hpre : ∀ y ∈ l.take i, y.seg < k) (hpost : ∀ y ∈ l.drop i, k < y.seg) (hi : i ≤ l.length) :
    (l.take i ++ [(⟨k, 0, 0⟩ : Us)] ++ l.drop i)[i]? = some ⟨k, 0, 0⟩ ∧ RiseU (l.take i ++ [(⟨k, 0, 0⟩ : Us)] ++ l.drop i) ∧ ∀ x : Us, x.seg = k → (l.take i ++ [(⟨k, 0, 0⟩ : Us)] ++ l.drop i).set i x = uput x l := by
  have hlt : (l.take i).length = i := by rw [List.length_take]; omega
  have hrise : ∀ x : Us, x.seg = k → RiseU (l.take i ++ [x] ++ l.drop i) := fun x hx => by
    refine List.pairwise_append.2 ⟨List.pairwise_append.2 ⟨List.Pairwise.sublist (List.take_sublist _ _) hr, List.pairwise_singleton _ _, fun a ha b hb => ?_⟩, List.Pairwise.sublist (List.drop_sublist _ _) hr, fun a ha b hb => ?_⟩
    · rw [List.mem_singleton.1 hb, hx]; exact hpre a ha
    · have h2 := hpost b hb
      rcases List.mem_append.1 ha with ha | ha
      · have h1 := hpre a ha; omega
      · rw [List.mem_singleton.1 ha, hx]; exact h2
  refine ⟨?_, hrise _ rfl, fun x hx => ?_⟩
  · rw [List.append_assoc, List.getElem?_append_right (by omega), hlt, Nat.sub_self]
    rfl
  · have he : (l.take i ++ [(⟨k, 0, 0⟩ : Us)] ++ l.drop i).set i x = l.take i ++ [x] ++ l.drop i := by
      rw [List.append_assoc, List.set_append_right _ _ (by omega), hlt, Nat.sub_self, List.append_assoc]
      rfl
    rw [he]
    refine rise_sameU (hrise x hx) (uput_rise hr) fun y => ?_
    rw [mem_uput]
    have hm : y ∈ l ↔ y ∈ l.take i ∨ y ∈ l.drop i := by
      conv => lhs; rw [← List.take_append_drop i l]
      exact List.mem_append
    rw [hm, List.mem_append, List.mem_append, List.mem_singleton]
    constructor
    · rintro ((h | h) | h)
      · exact .inr ⟨.inl h, by have := hpre y h; omega⟩
      · exact .inl h
      · exact .inr ⟨.inr h, by have := hpost y h; omega⟩
    · rintro (h | ⟨h | h, _⟩)
      · exact .inl (.inr h)
      · exact .inl (.inl h)
      · exact .inr h
set_option maxRecDepth 100000 in
set_option maxHeartbeats 8000000 in
theorem rput_has_t {q c : Nat} {A : Option Addr} {l : List Us} {w : World} (h : RbAt w q A c l) {M : Nat} (hok : UOk M 999999 l) {k n : Int} (hb : putB k n l = true) (hh : hasU k l = true) :
    Calls Try.prog 17 #[.pointer (some ⟨q, 0, none⟩), .int .i64 k, .int .i64 n, .bool true] w fun e w' => e = .returned (.bool true) ∧ RbTo w q A (uput (newU k n true l) l) w' := by
  have hn := hok.few
  have HOF := Lib.hid (rof_use h (by omega) hok.rise k)
  obtain ⟨u1, u2, u3⟩ := hok.use k
  have HPB := Lib.hid (of_decide_eq_true hb)
  obtain ⟨⟨s0, a0, v0⟩, hu⟩ : ∃ u, useOf k l = u := ⟨_, rfl⟩
  have HU := Lib.hid hu
  have hpb := HPB.out
  rw [hu] at HOF u1 u2 u3 hpb
  rw [hh] at HOF
  dsimp only at u1 u2 u3 hpb
  obtain ⟨a1, ha1⟩ : ∃ d, a0 + n = d := ⟨_, rfl⟩
  obtain ⟨v1, hv1⟩ : ∃ d, v0 + n = d := ⟨_, rfl⟩
  have HWA := Lib.hid (show IntKind.i64.wrap (a0 + n) = a1 ∧ wrap64 (a0 + n) = a1 from by rw [← ha1]; exact wrapI (by omega) (by omega))
  have HWV := Lib.hid (show IntKind.i64.wrap (v0 + n) = v1 ∧ wrap64 (v0 + n) = v1 from by rw [← hv1]; exact wrapI (by omega) (by omega))
  have hnew : newU k n true l = ⟨k, a1, v1⟩ := by
    unfold newU
    rw [hu, ← ha1, ← hv1]
    simp
  rw [hnew]
  have b1 : ¬ k < 0 := by omega
  have b2 : ¬ 99999999 < k := by omega
  have b3 : ¬ n < 0 := by omega
  have b4 : ¬ 1099511627776 < n := by omega
  have b5 : ¬ 1125899906842624 < a1 := by omega
  have HBB := Lib.hid (And.intro b1 (And.intro b2 (And.intro b3 (And.intro b4 b5))))
  have HX := Lib.hid (show RbAt w q A c l ∧ UOk M 999999 l ∧ l.length ≤ 999999 ∧ hasU k l = true from ⟨h, hok, hn, hh⟩)
  clear h hok hn hb hh hu u1 u2 u3 hpb ha1 hv1 hnew b1 b2 b3 b4 b5
  unfold usV at HOF
  dsimp only at HOF
  go_enter Try.func17, Try.ntmps17
  go_wp2_with (fail)
  refine HOF.out.mono ?_
  rintro e w1 ⟨rfl, hg1⟩
  obtain ⟨W1, hW1⟩ : ∃ W1, w1.alloc (.cells #[.int .i64 s0, .int .i64 a0, .int .i64 v0] 34) = W1 := ⟨_, rfl⟩
  have hg2 : Grows w1 W1 := hW1 ▸ grows_alloc _ _
  have hm1 : Whole W1 w1.heap.size 34 #[.int .i64 s0, .int .i64 a0, .int .i64 v0] := by rw [← hW1]; exact Whole.made _ _ _
  have c1 := hm1.cell 1
  simp only [List.getElem?_toArray, List.getElem?_cons_zero, List.getElem?_cons_succ] at c1
  have H1 := Lib.hid (Grows.trans hg1 hg2)
  obtain ⟨b1, b2, b3, b4, b5⟩ := HBB.out
  obtain ⟨y1, y2⟩ := HWA.out
  clear hg1 hg2 hm1 HOF
  obtain ⟨x, hf⟩ : ∃ x, ufind k l = some x := Option.isSome_iff_exists.1 HX.out.2.2.2
  obtain ⟨j, hj, hx⟩ := find_at hf
  have hxe : x = ⟨k, a0, v0⟩ := by
    have h1 := HU.out
    unfold useOf at h1
    rw [hf] at h1
    have h2 : x = ⟨s0, a0, v0⟩ := h1
    subst h2
    have h3 : s0 = k := hx
    rw [h3]
  subst hxe
  have HAS := Lib.hid (at_some (HX.out.1.grow H1.out) (by have := HX.out.2.2.1; omega) HX.out.2.1.rise hj rfl)
  have HJ := Lib.hid hj
  have k0 : ¬ ((j : Int) < 0) := by omega
  clear hf hj hx
  go_wp2_with (first | rw [hW1] | fail)
  refine HAS.out.mono ?_
  rintro e w2 ⟨rfl, hg2⟩
  have HT := Lib.hid (show RbAt w2 q A c l ∧ Spares (fun k => k = q) w w2 ∧ (A = A ∨ ∀ ad, A = some ad → w.heap.size ≤ ad.block) ∧ l[j]? = some ⟨k, a0, v0⟩ ∧ l.length ≤ 1000000 ∧ RiseU l ∧ ∀ x : Us, x = ⟨k, a1, v1⟩ → l.set j x = uput x l from
    ⟨HX.out.1.grow (Grows.trans H1.out hg2), Spares.grows (Grows.trans H1.out hg2), .inl rfl, HJ.out, by have := HX.out.2.2.1; omega, HX.out.2.1.rise, fun x e => by subst e; symm; exact uput_set HX.out.2.1.rise HJ.out rfl⟩)
  clear hg2 c1 b1 b2 b3 b4 b5 y1 y2 hW1
  have HAT := Lib.hid (at_some HT.out.1 HT.out.2.2.2.2.1 HT.out.2.2.2.2.2.1 HT.out.2.2.2.1 rfl)
  go_wp2_with (fail)
  refine HAT.out.mono ?_
  rintro e wa ⟨rfl, hga⟩
  have hra := HT.out.1.grow hga
  obtain ⟨mT, hmT⟩ : ∃ n, (l).length = n := ⟨_, rfl⟩
  have hjm : j < mT := by rw [← hmT]; exact (List.getElem?_eq_some_iff.1 HT.out.2.2.2.1).1
  have hba := hra.box
  have hua := hra.row
  rw [hmT] at hba hua
  obtain ⟨ad, y, hA, hy, hbl, hcy⟩ := Uss.at hua hjm
  obtain rfl : y = ⟨k, a0, v0⟩ := by have := HT.out.2.2.2.1; rw [hy] at this; exact Option.some.inj this
  obtain ⟨c0, c1, c2⟩ := hcy wa (Grows.refl _)
  dsimp only at c0 c1 c2
  have d0 := hba.cell
  rw [hA] at d0
  have p0 : (0 : Int) ≤ (j : Int) := by omega
  have p1 : (j : Int) < (mT : Int) := by omega
  obtain ⟨W3, hW3⟩ : ∃ W3, wa.alloc (.cells #[.int .i64 k, .int .i64 a0, .int .i64 v0] 34) = W3 := ⟨_, rfl⟩
  have hg3 : Grows wa W3 := hW3 ▸ grows_alloc _ _
  have hm3 : Whole W3 wa.heap.size 34 #[.int .i64 k, .int .i64 a0, .int .i64 v0] := by rw [← hW3]; exact Whole.made _ _ _
  have e1 := hm3.cell 1
  have f1 := hm3.free 1
  have hm4 : Whole (W3.setCell ⟨wa.heap.size, 1, none⟩ (.int .i64 a1)) wa.heap.size 34 #[.int .i64 k, .int .i64 a1, .int .i64 v0] := hm3.put 1 _
  have hg4 : Grows wa (W3.setCell ⟨wa.heap.size, 1, none⟩ (.int .i64 a1)) := Below.setCell (p := ⟨wa.heap.size, 1, none⟩) hg3 (Nat.le_refl _) _
  obtain ⟨W4, hW4⟩ : ∃ W4, W3.setCell ⟨wa.heap.size, 1, none⟩ (.int .i64 a1) = W4 := ⟨_, rfl⟩
  rw [hW4] at hm4 hg4
  have e2 := hm4.cell 2
  have f2 := hm4.free 2
  have hm5 : Whole (W4.setCell ⟨wa.heap.size, 2, none⟩ (.int .i64 v1)) wa.heap.size 34 #[.int .i64 k, .int .i64 a1, .int .i64 v1] := hm4.put 2 _
  have hg5 : Grows wa (W4.setCell ⟨wa.heap.size, 2, none⟩ (.int .i64 v1)) := Below.setCell (p := ⟨wa.heap.size, 2, none⟩) hg4 (Nat.le_refl _) _
  obtain ⟨W5, hW5⟩ : ∃ W5, W4.setCell ⟨wa.heap.size, 2, none⟩ (.int .i64 v1) = W5 := ⟨_, rfl⟩
  rw [hW5] at hm5 hg5
  obtain ⟨wv1, wv2⟩ := HWV.out
  have g0 := hm5.cell 0
  have g1 := hm5.cell 1
  have g2 := hm5.cell 2
  simp only [List.getElem?_toArray, List.getElem?_cons_zero, List.getElem?_cons_succ] at e1 e2 g0 g1 g2
  have hgf := Grows.trans hga hg5
  have HST := Lib.hid (show Calls Try.prog 29 #[.pointer (some ⟨q, 0, none⟩), .int .i64 (j : Int), .agg #[.int .i64 k, .int .i64 a1, .int .i64 v1]] W5 fun e w' => e = .returned (.tuple #[]) ∧ RbTo W5 q A ((l).set j ⟨k, a1, v1⟩) w' from
    rset_use (HT.out.1.grow hgf) HT.out.2.2.2.2.1 (by rw [hmT]; exact hjm) ⟨k, a1, v1⟩)
  have HGF := Lib.hid hgf
  obtain ⟨wa1, wa2⟩ := HWA.out
  clear hga hra hba hua hy hbl hcy hg3 hm3 hm4 hg4 hgf hjm hm5 hg5
  go_wp2_with (first | rw [hW3] | rw [hW4] | rw [hW5] | fail)
  refine HST.out.mono ?_
  rintro e w9 ⟨rfl, hto⟩
  have HTO := Lib.hid hto
  clear hto
  go_wp2_with (fail)
  go_ret
  have hto := HTO.out
  rw [HT.out.2.2.2.2.2.2 _ rfl] at hto
  exact ⟨rfl, RbTo.after HT.out.2.1 (.inl rfl) HGF.out hto⟩

set_option maxRecDepth 100000 in
set_option maxHeartbeats 8000000 in
theorem rput_has_f {q c : Nat} {A : Option Addr} {l : List Us} {w : World} (h : RbAt w q A c l) {M : Nat} (hok : UOk M 999999 l) {k n : Int} (hb : putB k n l = true) (hh : hasU k l = true) :
    Calls Try.prog 17 #[.pointer (some ⟨q, 0, none⟩), .int .i64 k, .int .i64 n, .bool false] w fun e w' => e = .returned (.bool true) ∧ RbTo w q A (uput (newU k n false l) l) w' := by
  have hn := hok.few
  have HOF := Lib.hid (rof_use h (by omega) hok.rise k)
  obtain ⟨u1, u2, u3⟩ := hok.use k
  have HPB := Lib.hid (of_decide_eq_true hb)
  obtain ⟨⟨s0, a0, v0⟩, hu⟩ : ∃ u, useOf k l = u := ⟨_, rfl⟩
  have HU := Lib.hid hu
  have hpb := HPB.out
  rw [hu] at HOF u1 u2 u3 hpb
  rw [hh] at HOF
  dsimp only at u1 u2 u3 hpb
  obtain ⟨a1, ha1⟩ : ∃ d, a0 + n = d := ⟨_, rfl⟩
  obtain ⟨v1, hv1⟩ : ∃ d, v0 + n = d := ⟨_, rfl⟩
  have HWA := Lib.hid (show IntKind.i64.wrap (a0 + n) = a1 ∧ wrap64 (a0 + n) = a1 from by rw [← ha1]; exact wrapI (by omega) (by omega))
  have HWV := Lib.hid (show IntKind.i64.wrap (v0 + n) = v1 ∧ wrap64 (v0 + n) = v1 from by rw [← hv1]; exact wrapI (by omega) (by omega))
  have hnew : newU k n false l = ⟨k, a1, v0⟩ := by
    unfold newU
    rw [hu, ← ha1]
    simp
  rw [hnew]
  have b1 : ¬ k < 0 := by omega
  have b2 : ¬ 99999999 < k := by omega
  have b3 : ¬ n < 0 := by omega
  have b4 : ¬ 1099511627776 < n := by omega
  have b5 : ¬ 1125899906842624 < a1 := by omega
  have HBB := Lib.hid (And.intro b1 (And.intro b2 (And.intro b3 (And.intro b4 b5))))
  have HX := Lib.hid (show RbAt w q A c l ∧ UOk M 999999 l ∧ l.length ≤ 999999 ∧ hasU k l = true from ⟨h, hok, hn, hh⟩)
  clear h hok hn hb hh hu u1 u2 u3 hpb ha1 hv1 hnew b1 b2 b3 b4 b5
  unfold usV at HOF
  dsimp only at HOF
  go_enter Try.func17, Try.ntmps17
  go_wp2_with (fail)
  refine HOF.out.mono ?_
  rintro e w1 ⟨rfl, hg1⟩
  obtain ⟨W1, hW1⟩ : ∃ W1, w1.alloc (.cells #[.int .i64 s0, .int .i64 a0, .int .i64 v0] 34) = W1 := ⟨_, rfl⟩
  have hg2 : Grows w1 W1 := hW1 ▸ grows_alloc _ _
  have hm1 : Whole W1 w1.heap.size 34 #[.int .i64 s0, .int .i64 a0, .int .i64 v0] := by rw [← hW1]; exact Whole.made _ _ _
  have c1 := hm1.cell 1
  simp only [List.getElem?_toArray, List.getElem?_cons_zero, List.getElem?_cons_succ] at c1
  have H1 := Lib.hid (Grows.trans hg1 hg2)
  obtain ⟨b1, b2, b3, b4, b5⟩ := HBB.out
  obtain ⟨y1, y2⟩ := HWA.out
  clear hg1 hg2 hm1 HOF
  obtain ⟨x, hf⟩ : ∃ x, ufind k l = some x := Option.isSome_iff_exists.1 HX.out.2.2.2
  obtain ⟨j, hj, hx⟩ := find_at hf
  have hxe : x = ⟨k, a0, v0⟩ := by
    have h1 := HU.out
    unfold useOf at h1
    rw [hf] at h1
    have h2 : x = ⟨s0, a0, v0⟩ := h1
    subst h2
    have h3 : s0 = k := hx
    rw [h3]
  subst hxe
  have HAS := Lib.hid (at_some (HX.out.1.grow H1.out) (by have := HX.out.2.2.1; omega) HX.out.2.1.rise hj rfl)
  have HJ := Lib.hid hj
  have k0 : ¬ ((j : Int) < 0) := by omega
  clear hf hj hx
  go_wp2_with (first | rw [hW1] | fail)
  refine HAS.out.mono ?_
  rintro e w2 ⟨rfl, hg2⟩
  have HT := Lib.hid (show RbAt w2 q A c l ∧ Spares (fun k => k = q) w w2 ∧ (A = A ∨ ∀ ad, A = some ad → w.heap.size ≤ ad.block) ∧ l[j]? = some ⟨k, a0, v0⟩ ∧ l.length ≤ 1000000 ∧ RiseU l ∧ ∀ x : Us, x = ⟨k, a1, v0⟩ → l.set j x = uput x l from
    ⟨HX.out.1.grow (Grows.trans H1.out hg2), Spares.grows (Grows.trans H1.out hg2), .inl rfl, HJ.out, by have := HX.out.2.2.1; omega, HX.out.2.1.rise, fun x e => by subst e; symm; exact uput_set HX.out.2.1.rise HJ.out rfl⟩)
  clear hg2 c1 b1 b2 b3 b4 b5 y1 y2 hW1
  have HAT := Lib.hid (at_some HT.out.1 HT.out.2.2.2.2.1 HT.out.2.2.2.2.2.1 HT.out.2.2.2.1 rfl)
  go_wp2_with (fail)
  refine HAT.out.mono ?_
  rintro e wa ⟨rfl, hga⟩
  have hra := HT.out.1.grow hga
  obtain ⟨mT, hmT⟩ : ∃ n, (l).length = n := ⟨_, rfl⟩
  have hjm : j < mT := by rw [← hmT]; exact (List.getElem?_eq_some_iff.1 HT.out.2.2.2.1).1
  have hba := hra.box
  have hua := hra.row
  rw [hmT] at hba hua
  obtain ⟨ad, y, hA, hy, hbl, hcy⟩ := Uss.at hua hjm
  obtain rfl : y = ⟨k, a0, v0⟩ := by have := HT.out.2.2.2.1; rw [hy] at this; exact Option.some.inj this
  obtain ⟨c0, c1, c2⟩ := hcy wa (Grows.refl _)
  dsimp only at c0 c1 c2
  have d0 := hba.cell
  rw [hA] at d0
  have p0 : (0 : Int) ≤ (j : Int) := by omega
  have p1 : (j : Int) < (mT : Int) := by omega
  obtain ⟨W3, hW3⟩ : ∃ W3, wa.alloc (.cells #[.int .i64 k, .int .i64 a0, .int .i64 v0] 34) = W3 := ⟨_, rfl⟩
  have hg3 : Grows wa W3 := hW3 ▸ grows_alloc _ _
  have hm3 : Whole W3 wa.heap.size 34 #[.int .i64 k, .int .i64 a0, .int .i64 v0] := by rw [← hW3]; exact Whole.made _ _ _
  have e1 := hm3.cell 1
  have f1 := hm3.free 1
  have hm4 : Whole (W3.setCell ⟨wa.heap.size, 1, none⟩ (.int .i64 a1)) wa.heap.size 34 #[.int .i64 k, .int .i64 a1, .int .i64 v0] := hm3.put 1 _
  have hg4 : Grows wa (W3.setCell ⟨wa.heap.size, 1, none⟩ (.int .i64 a1)) := Below.setCell (p := ⟨wa.heap.size, 1, none⟩) hg3 (Nat.le_refl _) _
  obtain ⟨W4, hW4⟩ : ∃ W4, W3.setCell ⟨wa.heap.size, 1, none⟩ (.int .i64 a1) = W4 := ⟨_, rfl⟩
  rw [hW4] at hm4 hg4
  have g0 := hm4.cell 0
  have g1 := hm4.cell 1
  have g2 := hm4.cell 2
  simp only [List.getElem?_toArray, List.getElem?_cons_zero, List.getElem?_cons_succ] at e1 g0 g1 g2
  have hgf := Grows.trans hga hg4
  have HST := Lib.hid (show Calls Try.prog 29 #[.pointer (some ⟨q, 0, none⟩), .int .i64 (j : Int), .agg #[.int .i64 k, .int .i64 a1, .int .i64 v0]] W4 fun e w' => e = .returned (.tuple #[]) ∧ RbTo W4 q A ((l).set j ⟨k, a1, v0⟩) w' from
    rset_use (HT.out.1.grow hgf) HT.out.2.2.2.2.1 (by rw [hmT]; exact hjm) ⟨k, a1, v0⟩)
  have HGF := Lib.hid hgf
  obtain ⟨wa1, wa2⟩ := HWA.out
  clear hga hra hba hua hy hbl hcy hg3 hm3 hm4 hg4 hgf hjm 
  go_wp2_with (first | rw [hW3] | rw [hW4] | fail)
  refine HST.out.mono ?_
  rintro e w9 ⟨rfl, hto⟩
  have HTO := Lib.hid hto
  clear hto
  go_wp2_with (fail)
  go_ret
  have hto := HTO.out
  rw [HT.out.2.2.2.2.2.2 _ rfl] at hto
  exact ⟨rfl, RbTo.after HT.out.2.1 (.inl rfl) HGF.out hto⟩

end Go.Proofs.Ytlldcogkcjnejaa
