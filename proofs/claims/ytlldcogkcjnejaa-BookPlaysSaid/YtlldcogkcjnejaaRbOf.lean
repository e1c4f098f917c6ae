/-
  The document's answer to book: Of, Sum, All.
-/
import Derived.Test.YtlldcogkcjnejaaRbAt
namespace Go.Proofs.Ytlldcogkcjnejaa
open Go.RowKit Go.Shelf Go.Maps Go.Sort
set_option linter.unusedVariables false
set_option linter.unusedSimpArgs false

theorem find_at {k : Int} {l : List Us} {x : Us} (h : ufind k l = some x) : ∃ j : Nat, l[j]? = some x ∧ x.seg = k := by
  have h1 := List.mem_of_find?_eq_some h
  have h2 : x.seg = k := by simpa using List.find?_some h
  obtain ⟨j, hj, e⟩ := List.mem_iff_getElem.1 h1
  exact ⟨j, by rw [List.getElem?_eq_getElem hj, e], h2⟩
set_option maxRecDepth 100000 in
set_option maxHeartbeats 4000000 in
theorem rof_use {q c : Nat} {A : Option Addr} {l : List Us} {w : World} (h : RbAt w q A c l) (hn : l.length ≤ 1000000) (hr : RiseU l) (k : Int) :
    Calls Try.prog 19 #[.pointer (some ⟨q, 0, none⟩), .int .i64 k] w fun e w' => e = .returned (.tuple #[usV (useOf k l), .bool (hasU k l)]) ∧ Grows w w' := by
  have hg0 := grows_alloc w (.cells #[.int .i64 0, .int .i64 0, .int .i64 0] 34)
  have hm0 := Whole.made w 34 #[.int .i64 0, .int .i64 0, .int .i64 0]
  obtain ⟨W0, hW0⟩ : ∃ W, w.alloc (.cells #[.int .i64 0, .int .i64 0, .int .i64 0] 34) = W := ⟨_, rfl⟩
  rw [hW0] at hg0 hm0
  have h0 := h.grow hg0
  cases hf : ufind k l with
  | none =>
    have hu : useOf k l = ⟨0, 0, 0⟩ ∧ hasU k l = false := by unfold useOf hasU; rw [hf]; exact ⟨rfl, rfl⟩
    rw [hu.1, hu.2]
    have HA := Lib.hid (at_none h0 hn hf)
    have HX := Lib.hid (And.intro hg0 hm0)
    clear h hg0 hm0 h0 hf hu
    go_enter Try.func19, Try.ntmps19
    go_wp2_with (first | rw [hW0] | fail)
    refine HA.out.mono ?_
    rintro e w1 ⟨rfl, hg1⟩
    have hm1 := hg1.whole HX.out.2
    have e0 := hm1.cell 0
    have e1 := hm1.cell 1
    have e2 := hm1.cell 2
    have f0 := hm1.free 0
    have f1 := hm1.free 1
    have f2 := hm1.free 2
    simp only [List.getElem?_toArray, List.getElem?_cons_zero, List.getElem?_cons_succ] at e0 e1 e2
    have H1 := Lib.hid (And.intro hg1 hm1)
    clear hg1 hm1
    go_wp2_with (fail)
    refine bodyPost_ret (results_use2 rfl _ _ w.heap.size 34 (.int .i64 0) (.int .i64 0) (.int .i64 0) (.bool false) rfl rfl (show Whole _ _ _ #[.int .i64 0, .int .i64 0, .int .i64 0] from ((H1.out.2.put 0 _).put 1 _).put 2 _)) rfl ?_
    exact ⟨rfl, Below.setCell (p := ⟨w.heap.size, 2, none⟩) (Below.setCell (p := ⟨w.heap.size, 1, none⟩) (Below.setCell (p := ⟨w.heap.size, 0, none⟩) (Grows.trans HX.out.1 H1.out.1) (Nat.le_refl _) _) (Nat.le_refl _) _) (Nat.le_refl _) _⟩
  | some x =>
    have hu : useOf k l = x ∧ hasU k l = true := by unfold useOf hasU; rw [hf]; exact ⟨rfl, rfl⟩
    rw [hu.1, hu.2]
    obtain ⟨j, hj, hx⟩ := find_at hf
    have HA := Lib.hid (at_some h0 hn hr hj hx)
    have HX := Lib.hid (And.intro hg0 (And.intro hm0 (And.intro h hj)))
    clear hg0 hm0 h0 hf hu
    obtain ⟨n, hl⟩ : ∃ n, l.length = n := ⟨_, rfl⟩
    have hjn : j < n := by rw [← hl]; exact (List.getElem?_eq_some_iff.1 hj).1
    have HB := Lib.hid (show Boxed w q 54 (.slice A n c) ∧ Uss w A n c l from by have h1 := h.box; have h2 := h.row; rw [hl] at h1 h2; exact ⟨h1, h2⟩)
    clear h hj hx hl
    go_enter Try.func19, Try.ntmps19
    go_wp2_with (first | rw [hW0] | fail)
    refine HA.out.mono ?_
    rintro e w1 ⟨rfl, hg1⟩
    have hgw := Grows.trans HX.out.1 hg1
    have hm1 := hg1.whole HX.out.2.1
    have e0 := hm1.cell 0
    have e1 := hm1.cell 1
    have e2 := hm1.cell 2
    have f0 := hm1.free 0
    have f1 := hm1.free 1
    have f2 := hm1.free 2
    simp only [List.getElem?_toArray, List.getElem?_cons_zero, List.getElem?_cons_succ] at e0 e1 e2
    obtain ⟨ad, y, hA, hy, hbl, hcy⟩ := Uss.at (HB.out.2.grow hgw) hjn
    subst hA
    have hyx : y = x := by have := HX.out.2.2.2; rw [hy] at this; exact Option.some.inj this
    subst hyx
    obtain ⟨c0, c1, c2⟩ := hcy w1 (Grows.refl _)
    have hbw : Boxed w1 q 54 (.slice (some ad) n c) := (hgw.block _ HB.out.1.lt).trans HB.out.1
    have d0 := hbw.cell
    have k0 : (0 : Int) ≤ (j : Int) := by omega
    have k1 : (j : Int) < (n : Int) := by omega
    have H1 := Lib.hid (And.intro hgw hm1)
    obtain ⟨y0, y1, y2⟩ := y
    dsimp only at c0 c1 c2
    clear hg1 hm1 hgw hbw hcy hbl hy
    go_wp2_with (fail)
    refine bodyPost_ret (results_use2 rfl _ _ w.heap.size 34 (.int .i64 y0) (.int .i64 y1) (.int .i64 y2) (.bool true) rfl rfl (show Whole _ _ _ #[.int .i64 y0, .int .i64 y1, .int .i64 y2] from ((H1.out.2.put 0 _).put 1 _).put 2 _)) rfl ?_
    exact ⟨rfl, Below.setCell (p := ⟨w.heap.size, 2, none⟩) (Below.setCell (p := ⟨w.heap.size, 1, none⟩) (Below.setCell (p := ⟨w.heap.size, 0, none⟩) H1.out.1 (Nat.le_refl _) _) (Nat.le_refl _) _) (Nat.le_refl _) _⟩
theorem sums_take {l : List Us} {i : Nat} {x : Us} (h : l[i]? = some x) : sumA (l.take (i + 1)) = sumA (l.take i) + x.all ∧ sumL (l.take (i + 1)) = sumL (l.take i) + x.live := by
  rw [List.take_add_one, h]
  exact ⟨sumA_snoc _ _, sumL_snoc _ _⟩
theorem sums_takeIn {M N : Nat} {l : List Us} (h : UOk M N l) (i : Nat) : 0 ≤ sumA (l.take i) ∧ sumA (l.take i) ≤ M ∧ 0 ≤ sumL (l.take i) ∧ sumL (l.take i) ≤ M :=
  h.perm (p := l.take i) (q := l.drop i) (by rw [List.take_append_drop])
set_option maxRecDepth 100000 in
set_option maxHeartbeats 4000000 in
theorem rsum_use {q c : Nat} {A : Option Addr} {l : List Us} {w : World} (h : RbAt w q A c l) {M : Nat} (hok : UOk M 1000000 l) (hM : M ≤ 1000000000000000000) :
    Calls Try.prog 21 #[.pointer (some ⟨q, 0, none⟩)] w fun e w' => e = .returned (.tuple #[.int .i64 (sumA l), .int .i64 (sumL l)]) ∧ Grows w w' := by
  obtain ⟨n, hl⟩ : ∃ n, l.length = n := ⟨_, rfl⟩
  have hb := h.box
  have hrow := h.row
  have hn := hok.few
  rw [hl] at hb hrow hn
  have HX := Lib.hid (And.intro hb (And.intro hrow (And.intro hok (And.intro hM hl))))
  clear h hb hrow hok hM hl
  go_enter Try.func21, Try.ntmps21
  go_wp2_with (fail)
  go_loopw [4, 5, 6] (fun va vl vi wr => ∃ (i : Nat), i ≤ n ∧ vi = .int .i64 (i : Int) ∧ va = .int .i64 (sumA (l.take i)) ∧ vl = .int .i64 (sumL (l.take i)) ∧ Hid (Grows w wr)) (fun _ _ vi _ => n - (intOf vi).toNat)
  case atStart => exact ⟨0, Nat.zero_le _, rfl, rfl, rfl, Lib.hid (Grows.refl _)⟩
  case round =>
    obtain ⟨i, hi, rfl, rfl, rfl, HG⟩ := hrel
    have hbw : Boxed wr q 54 (.slice A n c) := (HG.out.block _ HX.out.1.lt).trans HX.out.1
    have d0 := hbw.cell
    by_cases hlt : i < n
    · obtain ⟨ad, y, hA, hy, hbl, hcy⟩ := Uss.at (HX.out.2.1.grow HG.out) hlt
      subst hA
      obtain ⟨c0, c1, c2⟩ := hcy wr (Grows.refl _)
      have k0 : (0 : Int) ≤ (i : Int) := by omega
      have k1 : (i : Int) < (n : Int) := by omega
      have hst := sums_take hy
      have hin := sums_takeIn HX.out.2.2.1 (i + 1)
      obtain ⟨SA, hSA⟩ : ∃ z, sumA (l.take i) = z := ⟨_, rfl⟩
      obtain ⟨SL, hSL⟩ : ∃ z, sumL (l.take i) = z := ⟨_, rfl⟩
      obtain ⟨sa, hsa⟩ : ∃ z, sumA (l.take (i + 1)) = z := ⟨_, rfl⟩
      obtain ⟨sl, hsl⟩ : ∃ z, sumL (l.take (i + 1)) = z := ⟨_, rfl⟩
      rw [hSA, hSL, hsa, hsl] at hst
      rw [hsa, hsl] at hin
      rw [hSA, hSL]
      obtain ⟨y0, y1, y2⟩ := y
      dsimp only at c0 c1 c2 hst
      have ea : SA + y1 = sa := hst.1.symm
      have el : SL + y2 = sl := hst.2.symm
      have hM := HX.out.2.2.2.1
      have HWA := Lib.hid (wrapI (x := sa) (by omega) (by omega))
      have HWB := Lib.hid (wrapI (x := sl) (by omega) (by omega))
      have HSS := Lib.hid (And.intro hsa hsl)
      clear hbl hcy hbw hy hst hin hSA hSL hsa hsl hM
      obtain ⟨wa1, wa2⟩ := HWA.out
      obtain ⟨wb1, wb2⟩ := HWB.out
      go_wp2_with (fail)
      clear wa1 wa2 wb1 wb2
      go_roundw
      case rel => exact ⟨i + 1, by omega, by go_num, by rw [HSS.out.1], by rw [HSS.out.2], HG⟩
      case measure => simp [intOf]; omega
    · obtain rfl : i = n := by omega
      have ht : l.take i = l := List.take_of_length_le (by have := HX.out.2.2.2.2; omega)
      rw [ht]
      clear hbw ht
      go_wp2_with (fail)
      refine bodyPost_ret (results_tmp2 rfl _ _ _) rfl ?_
      exact ⟨rfl, HG.out⟩
set_option maxRecDepth 100000 in
set_option maxHeartbeats 4000000 in
theorem rall_use {q c : Nat} {A : Option Addr} {l : List Us} {w : World} (h : RbAt w q A c l) (hn : l.length ≤ 1000000) :
    Calls Try.prog 24 #[.pointer (some ⟨q, 0, none⟩)] w fun e w' => ∃ A' c', e = .returned (.slice A' l.length c') ∧ w'.ownsRow w.heap.size 34 3 (.slice A' l.length c') l.length (l.flatMap usE) ∧ Grows w w' := by
  obtain ⟨n, hl⟩ : ∃ n, l.length = n := ⟨_, rfl⟩
  have hb := h.box
  have hrow := h.row
  rw [hl] at hb hrow hn
  obtain ⟨W0, hW0⟩ : ∃ W, w.alloc (.cells #[] 34) = W := ⟨_, rfl⟩
  have hg0 : Grows w W0 := hW0 ▸ grows_alloc _ _
  have o0 : W0.ownsRow w.heap.size 34 3 (.slice (some ⟨w.heap.size, 0, none⟩) 0 0) 0 [] := by rw [← hW0]; exact World.ownsRow_lit w #[] 0 (Nat.le_refl _) (Nat.zero_le _) rfl
  have hbw : Boxed W0 q 54 (.slice A n c) := (hg0.block _ hb.lt).trans hb
  have d0 := hbw.cell
  have HX := Lib.hid (And.intro hg0 (And.intro o0 (hrow.grow hg0)))
  obtain ⟨i0, hi0, hz0, hz1, hz2⟩ := info_of infoUs
  have HI := Lib.hid (And.intro hi0 (And.intro hz0 (And.intro hz1 hz2)))
  clear h hb hrow hg0 o0 hbw hi0 hz0 hz1 hz2
  rw [hl]
  go_enter Try.func24, Try.ntmps24
  go_wp2_with (first
    | rw [hW0]
    | (at_builtin
       refine list_append_at rfl (.tmp 3) (.tmp 7) 40 rfl w.heap.size 34 i0 (.agg #[.int .i64 0, .int .i64 0, .int .i64 0]) 3 24 Try.underlying40 HI.out.1 HI.out.2.1 HI.out.2.2.1 HI.out.2.2.2 rfl (by omega)
         rfl HX.out.2.1 (A := A) (m := n) (c := c) rfl HX.out.2.2.row HX.out.2.2.bare (fun u hu => by obtain ⟨x, _, hx⟩ := List.mem_flatMap.1 hu; exact usE_one x u hx) n (by omega) (by unfold maxLen; omega) (by omega) (by have := HX.out.1.size; omega) ?_
       intro A5 c5 w5 ho5 hg5 hd5
       have H5 := Lib.hid (And.intro ho5 (And.intro hg5 hd5))
       clear ho5 hg5 hd5)
    | fail)
  go_ret
  obtain ⟨ho5, hg5, hd5⟩ := H5.out
  have hg6 : W0.grownBy w5 (Value.slice (some ⟨w.heap.size, 0, none⟩) 0 0).ownBlock := hg5
  have hs : Spares (fun k => k = w.heap.size) w w5 := (Spares.grows HX.out.1).grown hg6 fun k hk => by
    have h1 : some w.heap.size = some k := hk
    injection h1 with h1
    exact h1.symm
  exact ⟨A5, c5, rfl, by simpa using ho5, hs.below (Nat.le_refl _) fun k hk e => by omega⟩
end Go.Proofs.Ytlldcogkcjnejaa
