/-
  The document's answer to keys, in memory; its New, Many, Get.
-/
import Derived.Test.YtadgbobemmfjoaaKsTwo
namespace Go.Proofs.Ytadgbobemmfjoaa
open Go.RowKit
set_option linter.unusedVariables false
set_option linter.unusedSimpArgs false

/-- The answer's directory: the block of its one cell; its list may lie anywhere else. -/
structure RkAt (w : World) (q : Nat) (A : Option Addr) (c : Nat) (l : List Pl) : Prop where
  box : Boxed w q 56 (.slice A l.length c)
  row : Pls w A l.length c l
  apart : ∀ ad, A = some ad → ad.block ≠ q ∧ ad.block < w.heap.size
theorem RkAt.grow {w w' : World} {q c : Nat} {A : Option Addr} {l : List Pl} (h : RkAt w q A c l) (hg : Grows w w') : RkAt w' q A c l := ⟨(hg.block _ h.box.lt).trans h.box, h.row.grow hg, fun ad e => ⟨(h.apart ad e).1, Nat.lt_of_lt_of_le (h.apart ad e).2 hg.size⟩⟩
theorem RkAt.off {w w' : World} {q c : Nat} {A : Option Addr} {l : List Pl} {own : Nat → Prop} (h : RkAt w q A c l) (hs : Spares own w w') (h1 : ¬ own q) (h2 : ∀ ad, A = some ad → ¬ own ad.block) : RkAt w' q A c l := by
  refine ⟨(hs.same _ h.box.lt h1).trans h.box, ⟨h.row.len, h.row.cap, h.row.bare, h.row.row.len, fun j v hj => ?_⟩, fun ad e => ⟨(h.apart ad e).1, Nat.lt_of_lt_of_le (h.apart ad e).2 hs.size⟩⟩
  obtain ⟨ad, e1, e2, e3⟩ := h.row.row.spot j v hj
  refine ⟨ad, e1, Nat.lt_of_lt_of_le e2 hs.size, ?_⟩
  have hb := hs.same _ e2 (h2 ad e1)
  unfold World.cell? at e3 ⊢
  rw [add_block] at *
  rw [hb]
  exact e3
theorem rknew_any (w : World) : Calls Try.prog 11 #[] w fun e w' => ∃ q, e = .returned (.pointer (some ⟨q, 0, none⟩)) ∧ RkAt w' q none 0 [] ∧ Grows w w' ∧ w.heap.size ≤ q := by
  go_enter Try.func11, Try.ntmps11
  go_wp2_with (fail)
  go_ret
  exact ⟨w.heap.size, rfl, ⟨Boxed.new _ _ _, Rs.nil _, fun ad h => by cases h⟩, grows_alloc _ _, Nat.le_refl _⟩
theorem rkmany_any {q c : Nat} {A : Option Addr} {l : List Pl} {w : World} (h : RkAt w q A c l) {n : Nat} (hl : l.length = n) :
    Calls Try.prog 23 #[.pointer (some ⟨q, 0, none⟩)] w fun e w' => e = .returned (.int .i64 (n : Int)) ∧ Grows w w' := by
  subst hl
  have d0 := h.box.cell
  clear h
  go_enter Try.func23, Try.ntmps23
  go_wp2_with (fail)
  go_ret
  exact ⟨rfl, Grows.refl _⟩
theorem getL_first {key : List UInt8} {l : List Pl} {i : Nat} {p : Pl} (h1 : NotYet key l i) (h2 : l[i]? = some p) (h3 : p.key = key) : getL key l = some p := by
  have h : getL key l = (idx key l).bind fun i => l[i]? := by
    unfold getL idx
    exact List.find?_eq_bind_findIdx?_getElem? ..
  rw [h, kidx_first h1 h2 h3]
  exact h2
theorem getL_nowhere {key : List UInt8} {l : List Pl} {n : Nat} (h : NotYet key l n) (hn : l.length ≤ n) : getL key l = none := getL_none.2 fun p hp => by
  obtain ⟨j, hj⟩ := List.mem_iff_getElem?.1 hp
  exact h j p (by have := (List.getElem?_eq_some_iff.1 hj).1; omega) hj
theorem NotYet.next {key : List UInt8} {l : List Pl} {i : Nat} {p : Pl} (h : NotYet key l i) (hp : l[i]? = some p) (hne : p.key ≠ key) : NotYet key l (i + 1) := fun j q hj hq => by
  by_cases e : j < i
  · exact h j q e hq
  · obtain rfl : j = i := by omega
    rw [hp] at hq
    injection hq with hq
    subst hq
    exact hne
set_option maxRecDepth 100000 in
set_option maxHeartbeats 4000000 in
theorem rkget_any {q c : Nat} {A : Option Addr} {l : List Pl} {w : World} (h : RkAt w q A c l) (hn : l.length ≤ 1000000) (key : List UInt8) :
    Calls Try.prog 16 #[.pointer (some ⟨q, 0, none⟩), .string ⟨key.toArray⟩] w fun e w' => e = .returned (plTo (getL key l)) ∧ Grows w w' := by
  have hg1 := grows_alloc w (.cells #[.int .i64 0, .int .i64 0, .string ⟨#[]⟩, .int .i64 0, .int .i64 0] 32)
  have hm1 := Whole.made w 32 #[.int .i64 0, .int .i64 0, .string ⟨#[]⟩, .int .i64 0, .int .i64 0]
  obtain ⟨W1, hW1⟩ : ∃ W1, w.alloc (.cells #[.int .i64 0, .int .i64 0, .string ⟨#[]⟩, .int .i64 0, .int .i64 0] 32) = W1 := ⟨_, rfl⟩
  rw [hW1] at hg1 hm1
  obtain ⟨kb, hkb⟩ : ∃ kb, w.heap.size = kb := ⟨_, rfl⟩
  rw [hkb] at hm1
  obtain ⟨n, hl⟩ : ∃ n, l.length = n := ⟨_, rfl⟩
  have h1 := h.grow hg1
  have hb := h1.box
  have hrow := h1.row
  rw [hl] at hb hrow hn
  have HX := Lib.hid (And.intro hb (And.intro hrow (And.intro hg1 (And.intro hm1 (And.intro hl (show w.heap.size ≤ kb by omega))))))
  have HI0 := Lib.hid (show NotYet key l 0 from fun j q hj => by omega)
  clear h h1 hb hrow hg1 hm1 hl
  go_enter Try.func16, Try.ntmps16
  go_wp2_with (first | rw [hW1] | fail)
  go_loopw [6] (fun vi wr => ∃ (i : Nat), i ≤ n ∧ vi = .int .i64 (i : Int) ∧ Hid (NotYet key l i) ∧ Hid (Grows W1 wr)) (fun vi _ => n - (intOf vi).toNat)
  case atStart => exact ⟨0, Nat.zero_le _, rfl, HI0, Lib.hid (Grows.refl _)⟩
  case round =>
    obtain ⟨i, hi, rfl, HNY, HG⟩ := hrel
    have hbw : Boxed wr q 56 (.slice A n c) := (HG.out.block _ HX.out.1.lt).trans HX.out.1
    have d0 := hbw.cell
    clear hbw
    by_cases hlt : i < n
    · obtain ⟨ad, p, rfl, hp, hbl, hc⟩ := Pls.at HX.out.2.1 hlt
      obtain ⟨c0, c1, c2, c3, c4⟩ := hc wr HG.out
      obtain ⟨p0, p1, p2, p3, p4⟩ := p
      dsimp only at c0 c1 c2 c3 c4
      have hke := key_eq p2 key
      have HP := Lib.hid hp
      have k0 : (0 : Int) ≤ (i : Int) := by omega
      have k1 : (i : Int) < (n : Int) := by omega
      clear hp hbl hc
      rcases howe : (p2 == key) with _ | _
      · have HNE := Lib.hid (show p2 ≠ key from by simpa using howe)
        go_wp2_with (fail)
        go_roundw
        case rel => exact ⟨i + 1, by omega, by first | rfl | go_num, Lib.hid (HNY.out.next HP.out HNE.out), HG⟩
        case measure => simp [intOf]; omega
      · have HE := Lib.hid (getL_first HNY.out HP.out (show p2 = key from by simpa using howe))
        have HM := Lib.hid (HG.out.whole HX.out.2.2.2.1)
        go_wp2_with (first
          | (refine wpList_store_row rfl 32 _ _ rfl kb #[.int .i64 p0, .int .i64 p1, .string ⟨p2.toArray⟩, .int .i64 p3, .int .i64 p4] rfl rfl 32 _ HM.out sizePl rfl (plV_one _ _ _ _ _) ?_)
          | fail)
        refine bodyPost_ret (results_pl2 rfl _ _ kb 32 (.int .i64 p0) (.int .i64 p1) (.string ⟨p2.toArray⟩) (.int .i64 p3) (.int .i64 p4) (.bool true) rfl rfl (HM.out.rowed _)) rfl ?_
        rw [HE.out]
        exact ⟨rfl, below_setRow (Grows.trans HX.out.2.2.1 HG.out) HX.out.2.2.2.2.2 _⟩
    · obtain rfl : i = n := by omega
      have HE := Lib.hid (getL_nowhere HNY.out (by have := HX.out.2.2.2.2.1; omega))
      have HM := Lib.hid (HG.out.whole HX.out.2.2.2.1)
      go_wp2_with (first
        | (refine wpList_store_row rfl 32 _ _ rfl kb #[.int .i64 0, .int .i64 0, .string ⟨#[]⟩, .int .i64 0, .int .i64 0] rfl rfl 32 _ HM.out sizePl rfl (plV_one _ _ _ _ _) ?_)
        | fail)
      refine bodyPost_ret (results_pl2 rfl _ _ kb 32 (.int .i64 0) (.int .i64 0) (.string ⟨#[]⟩) (.int .i64 0) (.int .i64 0) (.bool false) rfl rfl (HM.out.rowed _)) rfl ?_
      rw [HE.out]
      exact ⟨rfl, below_setRow (Grows.trans HX.out.2.2.1 HG.out) HX.out.2.2.2.2.2 _⟩
end Go.Proofs.Ytadgbobemmfjoaa
