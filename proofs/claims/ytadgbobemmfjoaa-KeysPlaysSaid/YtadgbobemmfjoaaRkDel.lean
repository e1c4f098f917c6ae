/-
  The document's answer to keys: Del.
-/
import Derived.Test.YtadgbobemmfjoaaRkKeep
namespace Go.Proofs.Ytadgbobemmfjoaa
open Go.RowKit
set_option linter.unusedVariables false
set_option linter.unusedSimpArgs false

/-- What a call leaves that may write to the answer's directory. -/
def RkTo (w : World) (q : Nat) (A : Option Addr) (l' : List Pl) (w' : World) : Prop := ∃ A' c', RkAt w' q A' c' l' ∧ Spares (fun k => k = q) w w' ∧ (A' = A ∨ ∀ ad, A' = some ad → w.heap.size ≤ ad.block)
theorem spares_row (w : World) (kb : Nat) (c : Array Value) : Spares (fun k => k = kb) w (w.setRow kb c) := ⟨rfl, rfl, rfl, by simp, fun k _ hk => setRow_other w kb k c hk⟩
theorem RkAt.rowed {w : World} {q kb c : Nat} {A : Option Addr} {l : List Pl} (h : RkAt w q A c l) (hq : q ≠ kb) (hA : ∀ ad, A = some ad → ad.block ≠ kb) (cs : Array Value) : RkAt (w.setRow kb cs) q A c l :=
  h.off (spares_row w kb cs) hq hA
theorem RkTo.made {w w7 : World} {q B kb : Nat} {A A5 : Option Addr} {n5 c5 : Nat} {l' : List Pl} {v0 : Value} (hw : w.heap.size ≤ kb) (hkB : kb < B) (hq : q < w.heap.size) (hs : Spares (fun k => B ≤ k) w w7) (hown : OwnB w7 B A5 n5 c5 l') (hbx : Boxed w7 q 56 v0) (cs : Array Value) :
    RkTo w q A l' ((w7.setCell ⟨q, 0, none⟩ (.slice A5 n5 c5)).setRow kb cs) := by
  have hll := OwnB.len hown
  obtain ⟨W8, hW8⟩ : ∃ W, w7.setCell ⟨q, 0, none⟩ (.slice A5 n5 c5) = W := ⟨_, rfl⟩
  have hsz : W8.heap.size = w7.heap.size := by rw [← hW8]; simp
  have hnq : ∀ k, (Value.slice A5 n5 c5).ownBlock = some k → k ≠ q := fun k hk e => by have := (owned_lt3 hown hk).1; omega
  have ho8 : OwnB W8 B A5 n5 c5 l' := by rw [← hW8]; exact owned_same3 hown fun k hk => Below.heap_setCell _ _ _ _ fun e => hnq k hk e
  have hbk : ∀ ad, A5 = some ad → B ≤ ad.block ∧ ad.block < W8.heap.size := fun ad e => by subst e; exact owned_lt3 ho8 (k := ad.block) rfl
  have h8 : RkAt W8 q A5 c5 l' := by
    refine ⟨?_, ?_, fun ad e => ⟨fun e2 => ?_, (hbk ad e).2⟩⟩
    · rw [hll, ← hW8]
      exact Whole.put (show Whole w7 q 56 #[_] from hbx) 0 _
    · rw [hll]
      exact Rs.owned plL hll ho8
    · have := (hbk ad e).1
      omega
  rw [hW8]
  refine ⟨A5, c5, h8.rowed (by omega) (fun ad e e2 => by have := (hbk ad e).1; omega) cs, ?_, .inr fun ad e => by have := (hbk ad e).1; omega⟩
  have hs8 : Spares (fun k => B ≤ k ∨ k = q) w W8 := by
    rw [← hW8]
    exact Spares.setCell (own := fun k => B ≤ k ∨ k = q) (p := ⟨q, 0, none⟩) (hs.wider fun k _ hk => .inl hk) (.inr rfl) _
  have h9 := hs8.wider (own' := fun k => k = q ∨ w.heap.size ≤ k) fun k _ hk => hk.elim (fun h => .inr (by omega)) .inl
  have h10 : Spares (fun k => k = q ∨ w.heap.size ≤ k) w (W8.setRow kb cs) := h9.trans ((spares_row W8 kb cs).wider fun k _ hk => .inr (by omega))
  exact ⟨h10.os, h10.tape, h10.output, h10.size, fun k hk hne => h10.same k hk fun e => e.elim hne fun e => by omega⟩
set_option maxRecDepth 100000 in
set_option maxHeartbeats 4000000 in
theorem rkdel_any {q c : Nat} {A : Option Addr} {l : List Pl} {w : World} (h : RkAt w q A c l) (hn : l.length < 1000000) (key : List UInt8) :
    Calls Try.prog 14 #[.pointer (some ⟨q, 0, none⟩), .string ⟨key.toArray⟩] w fun e w' => e = .returned (plTo (getL key l)) ∧ RkTo w q A (delL key l) w' := by
  have hg1 := grows_alloc w (.cells #[.int .i64 0, .int .i64 0, .string ⟨#[]⟩, .int .i64 0, .int .i64 0] 32)
  have hm1 := Whole.made w 32 #[.int .i64 0, .int .i64 0, .string ⟨#[]⟩, .int .i64 0, .int .i64 0]
  obtain ⟨W1, hW1⟩ : ∃ W1, w.alloc (.cells #[.int .i64 0, .int .i64 0, .string ⟨#[]⟩, .int .i64 0, .int .i64 0] 32) = W1 := ⟨_, rfl⟩
  rw [hW1] at hg1 hm1
  have hs1 : W1.heap.size = w.heap.size + 1 := by rw [← hW1, World.size_alloc]
  obtain ⟨kb, hkb⟩ : ∃ kb, w.heap.size = kb := ⟨_, rfl⟩
  rw [hkb] at hm1
  have HG := Lib.hid (rkget_any (h.grow hg1) (by omega) key)
  obtain ⟨x, hx⟩ : ∃ x, getL key l = x := ⟨_, rfl⟩
  rw [hx] at HG ⊢
  obtain ⟨y, hy⟩ : ∃ y, x.getD Pl.zero = y := ⟨_, rfl⟩
  obtain ⟨z, hz⟩ : ∃ z, x.isSome = z := ⟨_, rfl⟩
  have hpl : plTo x = .tuple #[plV y, .bool z] := by unfold plTo; rw [hy, hz]
  rw [hpl] at HG ⊢
  obtain ⟨y0, y1, y2, y3, y4⟩ := y
  unfold plV at HG ⊢
  dsimp only at HG ⊢
  obtain ⟨n, hl⟩ : ∃ n, l.length = n := ⟨_, rfl⟩
  have hb := h.box
  have hrow := h.row
  rw [hl] at hb hrow hn
  have HX := Lib.hid (show Boxed w q 56 (.slice A n c) ∧ Pls w A n c l ∧ n < 1000000 ∧ Grows w W1 ∧ q < w.heap.size ∧ w.heap.size = kb ∧ W1.heap.size = kb + 1 from ⟨hb, hrow, hn, hg1, hb.lt, by omega, by omega⟩)
  have HM1 := Lib.hid hm1
  clear h hb hrow hn hg1 hm1 hs1 hl hx hy hz hpl
  go_enter Try.func14, Try.ntmps14
  go_wp2_with (first | rw [hW1] | fail)
  clear hW1
  refine HG.out.mono ?_
  rintro e w2 ⟨rfl, hg2⟩
  have hg3 := grows_alloc w2 (.cells #[.int .i64 y0, .int .i64 y1, .string ⟨y2.toArray⟩, .int .i64 y3, .int .i64 y4] 32)
  have hm3 := Whole.made w2 32 #[.int .i64 y0, .int .i64 y1, .string ⟨y2.toArray⟩, .int .i64 y3, .int .i64 y4]
  obtain ⟨W3, hW3⟩ : ∃ W3, w2.alloc (.cells #[.int .i64 y0, .int .i64 y1, .string ⟨y2.toArray⟩, .int .i64 y3, .int .i64 y4] 32) = W3 := ⟨_, rfl⟩
  rw [hW3] at hg3 hm3
  obtain ⟨gb, hgb⟩ : ∃ gb, w2.heap.size = gb := ⟨_, rfl⟩
  rw [hgb] at hm3
  have hgw : Grows w W3 := Grows.trans HX.out.2.2.2.1 (Grows.trans hg2 hg3)
  have hbw : Boxed W3 q 56 (.slice A n c) := (hgw.block _ HX.out.1.lt).trans HX.out.1
  have d0 := hbw.cell
  have HWO := Lib.hid (without_any W3 (HX.out.2.1.grow hgw) HX.out.2.2.1 key)
  have H3 := Lib.hid (show Grows w W3 ∧ Whole W3 gb 32 _ ∧ Grows W1 W3 ∧ Boxed W3 q 56 _ from ⟨hgw, hm3, Grows.trans hg2 hg3, hbw⟩)
  clear hg2 hg3 hm3 hgw hbw HG
  go_wp2_with (first | rw [hW3] | fail)
  refine HWO.out.mono ?_
  rintro e w4 ⟨A4, n4, c4, rfl, ho4, hg4⟩
  have hbw : Boxed w4 q 56 (.slice A n c) := (hg4.block _ H3.out.2.2.2.lt).trans H3.out.2.2.2
  have d1 := hbw.cell
  have f1 : w4.frozen? ⟨q, 0, none⟩ = false := Whole.free (show Whole w4 q 56 #[_] from hbw) 0
  have H4 := Lib.hid (And.intro ho4 (And.intro hg4 hbw))
  obtain ⟨W5, hW5⟩ : ∃ W, w4.setCell ⟨q, 0, none⟩ (.slice A4 n4 c4) = W := ⟨_, rfl⟩
  have hgbq : gb ≠ q ∧ kb ≠ q := by
    have h1 := HX.out.2.2.2.2
    have h2 := H3.out.2.2.1.size
    have h3 : gb = w2.heap.size := hgb.symm
    have h4 := H3.out.2.1.lt
    refine ⟨fun e => ?_, by omega⟩
    have h5 := H3.out.2.2.2
    subst e
    have h6 := H3.out.2.1
    unfold Boxed at h5
    rw [show W3.heap[gb]? = _ from h6] at h5
    injection h5 with h5
    injection h5 with h5 _ _
    injection h5 with h5
    simp at h5
  have hm5 : Whole W5 gb 32 #[.int .i64 y0, .int .i64 y1, .string ⟨y2.toArray⟩, .int .i64 y3, .int .i64 y4] := by
    rw [← hW5]
    exact (Below.heap_setCell _ _ _ _ hgbq.1).trans (hg4.whole H3.out.2.1)
  have hk5 : Whole W5 kb 32 #[.int .i64 0, .int .i64 0, .string ⟨#[]⟩, .int .i64 0, .int .i64 0] := by
    rw [← hW5]
    exact (Below.heap_setCell _ _ _ _ hgbq.2).trans (hg4.whole (H3.out.2.2.1.whole HM1.out))
  have e0 := hm5.cell 0
  have e1 := hm5.cell 1
  have e2 := hm5.cell 2
  have e3 := hm5.cell 3
  have e4 := hm5.cell 4
  simp only [List.getElem?_toArray, List.getElem?_cons_zero, List.getElem?_cons_succ] at e0 e1 e2 e3 e4
  have H5 := Lib.hid hk5
  have HR := Lib.hid (show RkTo w q A (delL key l) (W5.setRow kb #[.int .i64 y0, .int .i64 y1, .string ⟨y2.toArray⟩, .int .i64 y3, .int .i64 y4]) from by
    rw [← hW5]
    exact RkTo.made (B := W3.heap.size) (by have := HX.out.2.2.2.2; omega) (by have := HX.out.2.2.2.2; have := H3.out.2.2.1.size; omega) HX.out.2.2.2.2.1 (Spares.grows (Grows.trans H3.out.1 hg4)) ho4 hbw _)
  clear ho4 hg4 hbw hm5 hk5 hgbq HWO hgb d0
  go_wp2_with (first
    | rw [hW5]
    | (refine wpList_store_row rfl 32 _ _ rfl kb #[.int .i64 y0, .int .i64 y1, .string ⟨y2.toArray⟩, .int .i64 y3, .int .i64 y4] rfl rfl 32 _ H5.out sizePl rfl (plV_one _ _ _ _ _) ?_)
    | fail)
  refine bodyPost_ret (results_pl2 rfl _ _ kb 32 (.int .i64 y0) (.int .i64 y1) (.string ⟨y2.toArray⟩) (.int .i64 y3) (.int .i64 y4) (.bool z) rfl rfl (H5.out.rowed _)) rfl ?_
  exact ⟨rfl, HR.out⟩
end Go.Proofs.Ytadgbobemmfjoaa
