/-
  The iterator of package span that tells the parts of a range.
-/
import Derived.Test.YtfopiifchcaciaaSpIter
import Derived.Test.YtfopiifchcaciaaRound
import Derived.RangeFuncNested
import Derived.RangeFuncLeaves
import Derived.Shelf.Abstract
namespace Go.Proofs.Ytfopiifchcaciaa
open Go.RowKit Go.Shelf
set_option linter.unusedVariables false
set_option linter.unusedSimpArgs false
attribute [local go_sem] Oper.semAt_some

theorem parts_any (A : Option Addr) (N c : Nat) (fr to : Int) (w : World) : Calls Try.prog 32 #[.slice A N c, .int .i64 fr, .int .i64 to] w fun e w' =>
    e = .returned (.func (.func 38) #[] #[.pointer (some ⟨w.heap.size, 0, none⟩), .pointer (some ⟨w.heap.size + 1, 0, none⟩), .pointer (some ⟨w.heap.size + 1 + 1, 0, none⟩)]) ∧
      ((w.alloc (.cells #[.slice A N c] 28)).alloc (.cells #[.int .i64 fr] 3)).alloc (.cells #[.int .i64 to] 3) = w' := by
  go_enter Try.func32, Try.ntmps32
  go_wp2_with (fail)
  go_ret
  exact ⟨rfl, rfl⟩

theorem Ints.at {w : World} {ad : Addr} {N c : Nat} {xs : List Int} (h : Ints w (some ad) N c xs) {j : Nat} {x : Int} (hx : xs[j]? = some x) : w.cell? (ad.add j) = some (.int .i64 x) := by
  obtain ⟨ad', hA, _, hc⟩ := h.row.spot j (iV x) (by rw [List.getElem?_map, hx]; rfl)
  injection hA with hA
  rw [hA]
  exact hc
/-- The parts told when some pieces are over. -/
def toldP (fr to : Int) (xs : List Int) (j : Nat) : List Pt := partsP fr to 0 0 (xs.take j)
def partV (p : Pt) : Value := .agg #[.int .i64 p.1, .int .i64 p.2.1, .int .i64 p.2.2]
/-- What parts has between two rounds. -/
structure PartsHas (B1 B2 B3 B4 l : Nat) (A : Option Addr) (N c : Nat) (xs : List Int) (fr to : Int) (J : List Pt → (Nat → Prop) → World → Prop) (ps : List Pt) (j : Nat) (R : Nat → Prop) (W : World) : Prop where
  has : J ps R W
  told : ps = toldP fr to xs j
  b1 : Boxed W B1 28 (.slice A N c)
  b2 : Boxed W B2 3 (.int .i64 fr)
  b3 : Boxed W B3 3 (.int .i64 to)
  b4 : Boxed W B4 62 (.func (.yield l) #[] #[])
  sizes : Ints W A N c xs
  off : ∀ k, k = B1 ∨ k = B2 ∨ k = B3 ∨ k = B4 ∨ inSizes A N k → ¬ R k
theorem PartsHas.keep {B1 B2 B3 B4 l : Nat} {A : Option Addr} {N c : Nat} {xs : List Int} {fr to : Int} {J : List Pt → (Nat → Prop) → World → Prop} {ps ps' : List Pt} {j j' : Nat} {R R' own : Nat → Prop} {W W' : World}
    (h : PartsHas B1 B2 B3 B4 l A N c xs fr to J ps j R W) (hs : Spares own W W') (ho : ∀ k, k < W.heap.size → k = B1 ∨ k = B2 ∨ k = B3 ∨ k = B4 ∨ inSizes A N k → ¬ own k) (hj : J ps' R' W') (ht : ps' = toldP fr to xs j')
    (hR : ∀ k, k = B1 ∨ k = B2 ∨ k = B3 ∨ k = B4 ∨ inSizes A N k → ¬ R' k) : PartsHas B1 B2 B3 B4 l A N c xs fr to J ps' j' R' W' :=
  ⟨hj, ht, (hs.same _ h.b1.lt (ho _ h.b1.lt (.inl rfl))).trans h.b1, (hs.same _ h.b2.lt (ho _ h.b2.lt (.inr (.inl rfl)))).trans h.b2, (hs.same _ h.b3.lt (ho _ h.b3.lt (.inr (.inr (.inl rfl))))).trans h.b3,
    (hs.same _ h.b4.lt (ho _ h.b4.lt (.inr (.inr (.inr (.inl rfl)))))).trans h.b4, h.sizes.kept (R := fun k => own k ∧ k < W.heap.size) (Spares.wider hs fun k hk ho => ⟨ho, hk⟩) fun k hk h => ho k h.2 (.inr (.inr (.inr (.inr hk)))) h.1, hR⟩

theorem PartsHas.cells {B1 B2 B3 B4 l : Nat} {ad : Addr} {N c : Nat} {xs : List Int} {fr to : Int} {J : List Pt → (Nat → Prop) → World → Prop} {ps : List Pt} {j : Nat} {R : Nat → Prop} {W W' : World}
    (h : PartsHas B1 B2 B3 B4 l (some ad) N c xs fr to J ps j R W) (hs : Grows W W') {i : Nat} {x : Int} (hx : xs[i]? = some x) : W'.cell? ⟨B2, 0, none⟩ = some (.int .i64 fr) ∧ W'.cell? ⟨B3, 0, none⟩ = some (.int .i64 to) ∧
      W'.cell? ⟨B1, 0, none⟩ = some (.slice (some ad) N c) ∧ W'.cell? (ad.add i) = some (.int .i64 x) ∧ W'.cell? ⟨B4, 0, none⟩ = some (.func (.yield l) #[] #[]) :=
  ⟨Boxed.cell ((hs.block _ h.b2.lt).trans h.b2), Boxed.cell ((hs.block _ h.b3.lt).trans h.b3), Boxed.cell ((hs.block _ h.b1.lt).trans h.b1), (h.sizes.grow hs).at hx, Boxed.cell ((hs.block _ h.b4.lt).trans h.b4)⟩
theorem grows_none {w w' : World} (hw : Spares (fun _ => False) w w') : Grows w w' := ⟨hw.os, hw.tape, hw.output, hw.size, fun k hk => hw.same k hk id⟩

set_option maxRecDepth 100000 in
set_option maxHeartbeats 4000000 in
theorem parts_gives (n B1 B2 B3 : Nat) (A : Option Addr) (N c : Nat) (xs : List Int) (fr to : Int) (w : World) (h1 : Boxed w B1 28 (.slice A N c)) (h2 : Boxed w B2 3 (.int .i64 fr)) (h3 : Boxed w B3 3 (.int .i64 to))
    (hx : Ints w A N c xs) (hr : rightP xs = true) (hf : 0 ≤ fr ∧ fr ≤ 1073741824) (ht : 0 ≤ to ∧ to ≤ 1073741824) :
    GivesR Try.prog n 38 #[.pointer (some ⟨B1, 0, none⟩), .pointer (some ⟨B2, 0, none⟩), .pointer (some ⟨B3, 0, none⟩)] (fun p : Pt => #[partV p]) (fun pre _ => pre.length < 512)
      (fun k => k = B1 ∨ k = B2 ∨ k = B3 ∨ inSizes A N k) (fun ps => ps = partsP fr to 0 0 xs) w := by
  intro l J Jx W R0 hW hD hlt hJ hJx hY h0
  obtain ⟨W1, hW1⟩ : ∃ W1, W.alloc (.cells #[.func (.yield l) #[] #[]] 62) = W1 := ⟨_, rfl⟩
  have g1 : Grows W W1 := hW1 ▸ grows_alloc _ _
  have s1 : W1.heap.size = W.heap.size + 1 := by rw [← hW1, World.size_alloc]
  have b4 : Boxed W1 W.heap.size 62 (.func (.yield l) #[] #[]) := by rw [← hW1]; exact Boxed.new _ _ _
  have up : ∀ {W W' : World} {k : Nat} {o : Obj}, W.heap[k]? = some o → Grows W W' → W'.heap[k]? = some o := fun h hg => (hg.block _ (Array.getElem?_eq_some_iff.1 h).1).trans h
  have hWW : Grows w W1 := Grows.trans hW g1
  have b1 : Boxed W1 B1 28 (.slice A N c) := up h1 hWW
  have b2 : Boxed W1 B2 3 (.int .i64 fr) := up h2 hWW
  have b3 : Boxed W1 B3 3 (.int .i64 to) := up h3 hWW
  obtain ⟨W2, hW2⟩ : ∃ W2, W1.alloc (.cells #[.slice A N c] 28) = W2 := ⟨_, rfl⟩
  have g2 : Grows W1 W2 := hW2 ▸ grows_alloc _ _
  have s2 : W2.heap.size = W.heap.size + 1 + 1 := by rw [← hW2, World.size_alloc, s1]
  have b5 : Boxed W2 (W.heap.size + 1) 28 (.slice A N c) := by rw [← s1, ← hW2]; exact Boxed.new _ _ _
  have hx2 : Ints W2 A N c xs := hx.grow (Grows.trans hWW g2)
  have c1 := b1.cell
  have hlow : ∀ k, k = B1 ∨ k = B2 ∨ k = B3 ∨ inSizes A N k → k < w.heap.size := by
    rintro k (rfl | rfl | rfl | h)
    · exact h1.lt
    · exact h2.lt
    · exact h3.lt
    · exact hx.lies k h
  have hoff : ∀ k, k = B1 ∨ k = B2 ∨ k = B3 ∨ k = W.heap.size ∨ inSizes A N k → ¬ R0 k := by
    rintro k hk hR
    rcases hk with h | h | h | h | h
    · exact hD k hR (.inl h)
    · exact hD k hR (.inr (.inl h))
    · exact hD k hR (.inr (.inr (.inl h)))
    · have := hlt _ _ _ h0 k hR; omega
    · exact hD k hR (.inr (.inr (.inr h)))
  have h0' : PartsHas B1 B2 B3 W.heap.size l A N c xs fr to J [] 0 R0 W2 := ⟨hJ _ _ _ _ h0 (Spares.grows (Grows.trans g1 g2)), by simp [toldP, partsP], up b1 g2, up b2 g2, up b3 g2, up b4 g2, hx2, hoff⟩
  have hgives := begins_gives (n - 1) (W.heap.size + 1) A N c xs W2 b5 hx2 hr
  have hlen : xs.length = N := hx.len
  have HG := Lib.hid hgives
  have H0 := Lib.hid h0'
  have HS := Lib.hid (And.intro s1 (And.intro s2 (And.intro hW.size hlow)))
  have HR := Lib.hid hr
  have HY := Lib.hid hY
  have HL := Lib.hid hlen
  have HFT := Lib.hid (And.intro hf ht)
  have HW2 := Lib.hid hW2
  have HLT := Lib.hid hlt
  have HJ := Lib.hid (And.intro hJ hJx)
  have HR0 := Lib.hid (hlt _ _ _ h0)
  clear hgives h0' s1 s2 hr hY hlen b1 b2 b3 b4 b5 g1 g2 hWW h1 h2 h3 hx hx2 hlow hoff hD h0 hf ht up hW2 hlt hJ hJx
  show CallsIn _ _ _ _ #[.func (.yield l) #[] #[], .pointer (some ⟨B1, 0, none⟩), .pointer (some ⟨B2, 0, none⟩), .pointer (some ⟨B3, 0, none⟩)] _ _
  refine callsIn_of_wp_marks Try.func38 rfl trivial ?_ rfl
  simp only [Try.ntmps38, List.size_toArray, List.length_cons, List.length_nil, Nat.reduceAdd, Nat.reduceSub, Array.replicate_succ, Array.replicate_zero, List.push_toArray, List.append_toArray, List.nil_append, List.cons_append]
  gi_wp2_with (first | rw [hW1] | fail)
  refine ⟨trivial, (fun h => by cases h), (callsIn_wide.2 (begins_any A N c W1)).mono ?_⟩
  rintro e V ⟨rfl, hV⟩
  obtain rfl : V = W2 := hV.symm.trans HW2.out
  clear hV
  rw [HS.out.1]
  gi_wp2_with (fail)
  refine range_lawR (gf := 52) (lb := #[.pointer (some ⟨W.heap.size + 1, 0, none⟩)]) rfl (enters_of Try.func52 (by kernel_rfl) rfl) HG.out
    (fun _ => rfl) R0 ?dead (fun pre R A' => ∃ ps, PartsHas B1 B2 B3 W.heap.size l A N c xs fr to J ps pre.length R A') (fun pre R A' => ∃ ps, Jx ps R A') (fun s R A' ⟨ps, h⟩ => HLT.out _ _ _ h.has)
    ?keep ?keepx ⟨[], H0.out⟩ ?round ?done ?stop
  case dead =>
    rintro k (rfl | h)
    · exact ⟨by rw [HS.out.2.1]; omega, fun h => by have := HR0.out _ h; omega⟩
    · exact ⟨H0.out.sizes.lies k h, H0.out.off k (.inr (.inr (.inr (.inr h))))⟩
  case keep =>
    rintro s R A' B' ⟨ps, h⟩ hs
    refine ⟨ps, h.keep hs (fun k hk h2 h3 => ?_) (HJ.out.1 _ _ _ _ h.has (Spares.wider hs fun k _ hk => ⟨by have := HS.out.2.1; omega, hk.2⟩)) h.told h.off⟩
    have := HS.out
    rcases h2 with rfl | rfl | rfl | rfl | h2
    · have := this.2.2.2 _ (.inl rfl); omega
    · have := this.2.2.2 _ (.inr (.inl rfl)); omega
    · have := this.2.2.2 _ (.inr (.inr (.inl rfl))); omega
    · omega
    · have := this.2.2.2 _ (.inr (.inr (.inr h2))); omega
  case keepx =>
    rintro s R A' B' ⟨ps, h⟩ hs
    exact ⟨ps, HJ.out.2 _ _ _ _ h (Spares.wider hs fun k _ hk => ⟨by have := HS.out.2.1; omega, hk.2⟩)⟩
  case round =>
    rintro l2 pre R ⟨pi, pb⟩ W0 hsz0 ⟨ps, hi⟩ ⟨hlt, hpx⟩
    obtain ⟨rfl, rfl⟩ := Prod.mk.inj hpx

    dsimp only
    gi_wp2_with (fail)
    refine ⟨Grows.refl _, fun Wb hsp ps hib => ?_⟩
    obtain ⟨j, hj⟩ : ∃ j, pre.length = j := ⟨_, rfl⟩
    rw [hj] at hib hlt ⊢
    obtain ⟨t, htt⟩ : ∃ t, tot (xs.take j) = t := ⟨_, rfl⟩
    rw [htt]
    obtain ⟨ad, x, rfl, hcx, hgx, hblk⟩ := hib.sizes.get hlt
    have hb2 := right_get HR.out hgx
    have hb3 := right_tot HR.out j
    rw [htt] at hb3
    obtain ⟨⟨hf1, hf2⟩, ht1, ht2⟩ := HFT.out
    obtain ⟨p1, hp1⟩ : ∃ p1, max (fr - t) 0 = p1 := ⟨_, rfl⟩
    obtain ⟨p2, hp2⟩ : ∃ p2, min (to - t) x = p2 := ⟨_, rfl⟩
    have HM : Hid ((if fr - t < 0 then (0 : Int) else fr - t) = p1 ∧ (if x < to - t then x else to - t) = p2) := Lib.hid ⟨by rw [← hp1]; split <;> omega, by rw [← hp2]; split <;> omega⟩
    have HW := Lib.hid (And.intro (IntWalk.i64_in (fr - t) (by omega)) (And.intro (IntWalk.wrap64_in (fr - t) (by omega)) (And.intro (IntWalk.i64_in (to - t) (by omega)) (IntWalk.wrap64_in (to - t) (by omega)))))
    have HC : Hid (∀ w', Spares (fun _ => False) Wb w' → w'.cell? ⟨B2, 0, none⟩ = some (.int .i64 fr) ∧ w'.cell? ⟨B3, 0, none⟩ = some (.int .i64 to) ∧ w'.cell? ⟨B1, 0, none⟩ = some (.slice (some ad) N c) ∧ w'.cell? (ad.add j) = some (.int .i64 x)) := Lib.hid fun w' hw => by
      obtain ⟨q1, q2, q3, q4, _⟩ := hib.cells (grows_none hw) hgx
      exact ⟨q1, q2, q3, q4⟩
    have HP := Lib.hid (parts_next fr to xs j x hgx)
    have HIB := Lib.hid hib
    have hj1 : (j : Int) < (N : Int) := by omega
    have hj0 : (0 : Int) ≤ (j : Int) := by omega
    clear hcx hgx hblk hb2 hb3 hf1 hf2 ht1 ht2 hib
    gi_wp2_with (fail)
    refine wpIn_round_jobs (G := Grows) (E := Spares (fun _ => False)) 15 [valJob (fun _ => False) (.int .i64 (j : Int)), valJob (fun _ => False) (.int .i64 fr), valJob (fun _ => False) (.int .i64 t), valJob (fun _ => False) (.int .i64 (fr - t)), valJob (fun _ => False) (.int .i64 p1), valJob (fun _ => False) (.int .i64 to), valJob (fun _ => False) (.int .i64 t), valJob (fun _ => False) (.int .i64 (to - t)), valJob (fun _ => False) (.slice (some ad) N c), valJob (fun _ => False) (.int .i64 (j : Int)), valJob (fun _ => False) (.pointer (some (ad.add j))), valJob (fun _ => False) (.int .i64 x), valJob (fun _ => False) (.int .i64 p2), valJob (fun _ => False) (.agg #[.int .i64 (j : Int), .int .i64 p1, .int .i64 p2]), newJob' (fun _ => False) Wb.heap.size 40 #[.int .i64 0, .int .i64 0, .int .i64 0]] [(false, false), (false, false), (false, false), (false, false), (false, false), (false, false), (false, false), (false, false), (false, false), (false, false), (false, false), (false, false), (false, false), (false, false), (false, false)] (fun _ => True) rfl mixed (by kernel_rfl) (by kernel_rfl) (fun _ _ => Spares.grows) (fun _ _ _ => Spares.trans) (spares_drew _ _) trivial (fun _ _ _ _ => trivial) ?_
    simp only [List.take_succ_cons, List.take_zero, List.drop_succ_cons, List.drop_zero]
    refine j_val (.int .i64 (j : Int)) (by rfl) ?_ ?_
    · intro w' hC; clear hC; go_simp
    simp only [Act.put, List.setIfInBounds_toArray, List.set_cons_zero, List.set_cons_succ]
    refine j_val (.int .i64 fr) (by rfl) ?_ ?_
    · intro w' hC; obtain ⟨c1, c2, c3, c4⟩ := HC.out w' hC; clear hC; go_simp
    simp only [Act.put, List.setIfInBounds_toArray, List.set_cons_zero, List.set_cons_succ]
    refine j_val (.int .i64 t) (by rfl) ?_ ?_
    · intro w' hC; clear hC; go_simp
    simp only [Act.put, List.setIfInBounds_toArray, List.set_cons_zero, List.set_cons_succ]
    refine j_val (.int .i64 (fr - t)) (by rfl) ?_ ?_
    · intro w' hC; have k1 := HW.out.1; have k2 := HW.out.2.1; clear hC; go_simp
    simp only [Act.put, List.setIfInBounds_toArray, List.set_cons_zero, List.set_cons_succ]
    refine j_val (.int .i64 p1) (by rfl) ?_ ?_
    · intro w' hC; clear hC; (go_simp; exact HM.out.1)
    simp only [Act.put, List.setIfInBounds_toArray, List.set_cons_zero, List.set_cons_succ]
    refine j_val (.int .i64 to) (by rfl) ?_ ?_
    · intro w' hC; obtain ⟨c1, c2, c3, c4⟩ := HC.out w' hC; clear hC; go_simp
    simp only [Act.put, List.setIfInBounds_toArray, List.set_cons_zero, List.set_cons_succ]
    refine j_val (.int .i64 t) (by rfl) ?_ ?_
    · intro w' hC; clear hC; go_simp
    simp only [Act.put, List.setIfInBounds_toArray, List.set_cons_zero, List.set_cons_succ]
    refine j_val (.int .i64 (to - t)) (by rfl) ?_ ?_
    · intro w' hC; have k1 := HW.out.2.2.1; have k2 := HW.out.2.2.2; clear hC; go_simp
    simp only [Act.put, List.setIfInBounds_toArray, List.set_cons_zero, List.set_cons_succ]
    refine j_val (.slice (some ad) N c) (by rfl) ?_ ?_
    · intro w' hC; obtain ⟨c1, c2, c3, c4⟩ := HC.out w' hC; clear hC; go_simp
    simp only [Act.put, List.setIfInBounds_toArray, List.set_cons_zero, List.set_cons_succ]
    refine j_val (.int .i64 (j : Int)) (by rfl) ?_ ?_
    · intro w' hC; clear hC; go_simp
    simp only [Act.put, List.setIfInBounds_toArray, List.set_cons_zero, List.set_cons_succ]
    refine j_val (.pointer (some (ad.add j))) (by rfl) ?_ ?_
    · intro w' hC; clear hC; go_simp
    simp only [Act.put, List.setIfInBounds_toArray, List.set_cons_zero, List.set_cons_succ]
    refine j_val (.int .i64 x) (by rfl) ?_ ?_
    · intro w' hC; obtain ⟨c1, c2, c3, c4⟩ := HC.out w' hC; clear hC; go_simp
    simp only [Act.put, List.setIfInBounds_toArray, List.set_cons_zero, List.set_cons_succ]
    refine j_val (.int .i64 p2) (by rfl) ?_ ?_
    · intro w' hC; clear hC; (go_simp; exact HM.out.2)
    simp only [Act.put, List.setIfInBounds_toArray, List.set_cons_zero, List.set_cons_succ]
    refine j_val (.agg #[.int .i64 (j : Int), .int .i64 p1, .int .i64 p2]) (by rfl) ?_ ?_
    · intro w' hC; clear hC; go_simp
    simp only [Act.put, List.setIfInBounds_toArray, List.set_cons_zero, List.set_cons_succ]
    refine j_new 40 #[.int .i64 0, .int .i64 0, .int .i64 0] (fun _ h => h.elim) (by rfl) ?_ ?_
    · intro w' hC; clear hC; go_simp
    intro g
    simp only [Act.put, List.setIfInBounds_toArray, List.set_cons_zero, List.set_cons_succ]
    refine wpJ_end ?_
    intro w2 hC hks hcls
    have HC2 := Lib.hid hC
    have HG := Lib.hid (Known.at hks 0 rfl)
    clear hC hks hcls

    obtain ⟨hg1, _, hg2⟩ := HG.out
    have f0 := hg1.free 0
    have e0 := hg1.cell 0
    have e1 := hg1.cell 1
    have e2 := hg1.cell 2
    simp only [List.getElem?_toArray, List.getElem?_cons_zero, List.getElem?_cons_succ] at e0 e1 e2
    have f1 := hg1.free 1
    have f2 := hg1.free 2
    have hw3 := ((hg1.put 0 (.int .i64 (j : Int))).put 1 (.int .i64 p1)).put 2 (.int .i64 p2)
    obtain ⟨W3, hW3⟩ : ∃ W3, ((w2.setCell ⟨g, 0, none⟩ (.int .i64 (j : Int))).setCell ⟨g, 1, none⟩ (.int .i64 p1)).setCell ⟨g, 2, none⟩ (.int .i64 p2) = W3 := ⟨_, rfl⟩
    rw [hW3] at hw3
    have d0 := hw3.cell 0
    have d1 := hw3.cell 1
    have d2 := hw3.cell 2
    simp only [Array.getElem?_setIfInBounds, List.getElem?_toArray, List.getElem?_cons_zero, List.getElem?_cons_succ, List.setIfInBounds_toArray, List.set_cons_zero, List.set_cons_succ] at d0 d1 d2
    have hRlt : ∀ k, R k → k < Wb.heap.size := HLT.out _ _ _ HIB.out.has
    have hsp3 : Spares (fun k => Wb.heap.size ≤ k) Wb W3 := by
      rw [← hW3]
      exact ((Spares.wider HC2.out fun _ _ h => h.elim).setCell hg2 _ |>.setCell hg2 _).setCell hg2 _
    have hj3 : J ps R W3 := HJ.out.1 _ _ _ _ HIB.out.has (Spares.wider hsp3 fun k hk h => by omega)
    have q4 := Boxed.cell ((hsp3.same _ HIB.out.b4.lt (by have := HIB.out.b4.lt; omega)).trans HIB.out.b4)
    have hlow : ∀ k, k = B1 ∨ k = B2 ∨ k = B3 ∨ k = W.heap.size ∨ inSizes (some ad) N k → k < W0.heap.size := by
      obtain ⟨s1, s2, s3, s4⟩ := HS.out
      rintro k (h | h | h | h | h)
      · have := s4 k (.inl h); omega
      · have := s4 k (.inr (.inl h)); omega
      · have := s4 k (.inr (.inr (.inl h))); omega
      · omega
      · have := s4 k (.inr (.inr (.inr h))); omega
    have hsz := hsp.size
    have HQ := Lib.hid (And.intro hsp3 (And.intro hj3 (And.intro hlow (And.intro hsz (And.intro hRlt (And.intro hp1 (And.intro hp2 htt)))))))
    have HX3 := Lib.hid hW3
    clear hsp3 hj3 hlow hsz hRlt hw3 hg1 hg2 hW3 hp1 hp2 htt hi hsp
    by_cases hpp : p1 < p2
    · obtain ⟨fn, tmps, assign, body, hy, hR⟩ := HY.out ps R ((j : Int), p1, p2) W3 HQ.out.2.1 (by have h1 := parts_few fr to (xs.take j) 0 0; have h2 := right_len HR.out; have h3 := HIB.out.told; rw [toldP] at h3; rw [← h3, List.length_take] at h1; have := HL.out; omega)
      dsimp only [partV] at hy
      have HRD := Lib.hid hR
      clear hR
      gi_wp2_with (first | rw [HX3.out] | fail)
      refine ⟨(fun h => by cases h), RoundIn.mono (show RoundIn (Fence.wide.inRound l2) (n - 1 - 1) Try.prog l fn tmps assign body W3 _ from round_wideS HRD.out) ?_⟩
      obtain ⟨hsp3, hj3, hlow, hsz, hRlt, hp1, hp2, htt⟩ := HQ.out
      rintro e W' ⟨R', hr', hs', (⟨rfl, hj'⟩ | ⟨rfl, hjx⟩)⟩
      · have hps : ps ++ [((j : Int), p1, p2)] = toldP fr to xs (j + 1) := by
          rw [toldP, HP.out, HIB.out.told, toldP, htt]
          unfold partP
          rw [hp1, hp2, if_pos hpp]
        have hall : Spares (fun k => R k ∨ W0.heap.size ≤ k) Wb W' := (Spares.wider hsp3 fun k hk h => by omega).trans (Spares.wider hs' fun k _ h => .inl h)
        have hsub : ∀ k, R' k → R k ∨ W0.heap.size ≤ k := fun k hk => (hr' k hk).imp id fun h => by have := hsp3.size; omega
        have hI := HIB.out.keep hall (fun k hk hB h => h.elim (HIB.out.off k hB) fun h => by have := hlow k hB; omega) hj' hps (fun k hB h => (hsub k h).elim (HIB.out.off k hB) fun h => by have := hlow k hB; omega)
        have HEND := Lib.hid (And.intro hsub (And.intro hall hI))
        clear hps hall hsub hI hj' hs' hr' hsp3 hj3 hlow hsz hRlt hp1 hp2 htt HRD hy
        gi_wp2_with (fail)
        obtain ⟨q1, q2, q3⟩ := HEND.out
        exact ⟨R', q1, q2, _, by rw [List.length_append, hj]; exact q3⟩
      · have hall : Spares (fun k => R k ∨ W0.heap.size ≤ k) Wb W' := (Spares.wider hsp3 fun k hk h => by omega).trans (Spares.wider hs' fun k _ h => .inl h)
        have hsub : ∀ k, R' k → R k ∨ W0.heap.size ≤ k := fun k hk => (hr' k hk).imp id fun h => by have := hsp3.size; omega
        have HEND := Lib.hid (And.intro hsub (And.intro hall hjx))
        clear hall hsub hjx hs' hr' hsp3 hj3 hlow hsz hRlt hp1 hp2 htt HRD hy
        gi_wp2_with (fail)
        obtain ⟨q1, q2, q3⟩ := HEND.out
        exact ⟨R', q1, q2, _, q3⟩
    · gi_wp2_with (first | rw [HX3.out] | (refine ⟨fun _ h => (by cases h), ?_⟩) | fail)
      obtain ⟨hsp3, hj3, hlow, hsz, hRlt, hp1, hp2, htt⟩ := HQ.out
      have hps : ps = toldP fr to xs (j + 1) := by
        rw [toldP, HP.out, htt]
        unfold partP
        rw [hp1, hp2, if_neg (by omega), List.append_nil]
        exact HIB.out.told
      refine ⟨R, fun k h => .inl h, Spares.wider hsp3 fun k hk h => by omega, ps, ?_⟩
      rw [List.length_append, hj]
      exact HIB.out.keep hsp3 (fun k hk _ h => by omega) hj3 hps HIB.out.off
  case done =>
    intro D xs' R W' hD hnD hS hi hK
    obtain ⟨ps, hi⟩ := hi
    have hps : ps = partsP fr to 0 0 xs := by
      rw [hi.told, toldP, List.take_of_length_le (by have := HL.out; omega)]
    have HA := Lib.hid (And.intro hi.has (And.intro hK (And.intro hD (And.intro hnD hps))))
    clear hi hK hD hnD hps hS
    gi_wp2_with (fail)
    obtain ⟨hh, hK, hD, hnD, hps⟩ := HA.out
    refine ⟨by simp, .inl ⟨_, _, rfl, run_takeDeferred hK, ?_⟩⟩
    refine ⟨.tuple #[], by simp [results, Try.results38, go_sem], ⟨_, rfl⟩, .inl ⟨ps, R, hps, HJ.out.1 _ _ _ _ hh ⟨rfl, rfl, rfl, by simp, fun k _ hk => World.putObj_heap_other fun e => hk ⟨by have := HS.out.2.1; omega, e ▸ hnD⟩⟩⟩⟩
  case stop =>
    intro D pre R W' hD hnD hi hK
    obtain ⟨ps, hi⟩ := hi
    have HA := Lib.hid (And.intro hi (And.intro hK (And.intro hD hnD)))
    clear hi hK hD hnD
    gi_wp2_with (fail)
    obtain ⟨hh, hK, hD, hnD⟩ := HA.out
    refine ⟨by simp, .inl ⟨_, _, rfl, run_takeDeferred hK, ?_⟩⟩
    refine ⟨.tuple #[], by simp [results, Try.results38, go_sem], ⟨_, rfl⟩, .inr ⟨ps, R, HJ.out.2 _ _ _ _ hh ⟨rfl, rfl, rfl, by simp, fun k _ hk => World.putObj_heap_other fun e => hk ⟨by have := HS.out.2.1; omega, e ▸ hnD⟩⟩⟩⟩
end Go.Proofs.Ytfopiifchcaciaa
