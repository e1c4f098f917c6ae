/-
  RecBare holds of any record and any kind: a right record of a kind is of no other one, but that an Inline without bytes may be a Tomb, and a Tomb an Inline; what a kind does not have makes it wrong; no condition.
-/
import Derived.Test.YtmfhpfehphbklaaRcHead
import Derived.Test.YtmfhpfehphbklaaRcIn
import Derived.Test.YtmfhpfehphbklaaRcBack
import Derived.ProofKit
import Derived.ChangeOld
namespace Go.Proofs.Ytmfhpfehphbklaa
open Go.ChangeShapes Go.WideShapes Go.ChangeAt Go.RowKit
set_option linter.unusedSimpArgs false
set_option linter.unusedVariables false


theorem bare_like {r : Rc} (h : RightR r) (k : Int) : RightR { r with kind := k } ↔ (r.kind = k ∨ (r.kind = 3 ∧ k = 4 ∧ r.b.length = 0) ∨ (r.kind = 4 ∧ k = 3)) := by
  obtain ⟨kd, ks, id, no, size, ls, bs⟩ := r
  unfold RightR PieceOk RootOk InlineOk TombOk Bare KeyOk at *
  dsimp only at *
  constructor
  · intro h2
    omega
  · rintro (rfl | ⟨rfl, rfl, hb⟩ | ⟨rfl, rfl⟩)
    · exact h
    · omega
    · omega
theorem bare_size {r : Rc} (h : RightR r) : ¬ RightR { r with size := r.size + 1 } := by
  obtain ⟨kd, ks, id, no, size, ls, bs⟩ := r
  unfold RightR PieceOk RootOk InlineOk TombOk Bare KeyOk LocsOk at *
  dsimp only at *
  intro h2
  omega
theorem bare_id {r : Rc} (h : RightR r) : ¬ RightR { r with id := -1 } := by
  obtain ⟨kd, ks, id, no, size, ls, bs⟩ := r
  unfold RightR PieceOk RootOk InlineOk TombOk Bare KeyOk IdOk at *
  dsimp only at *
  intro h2
  omega
theorem size_small {r : Rc} (h : RightR r) : 0 ≤ r.size ∧ r.size ≤ 65536 := by
  obtain ⟨kd, ks, id, no, size, ls, bs⟩ := r
  unfold RightR PieceOk RootOk InlineOk TombOk Bare at *
  dsimp only at *
  omega


set_option maxRecDepth 100000 in
set_option maxHeartbeats 8000000 in
theorem recBare_law {w : World} (kd : Int) (ks : List UInt8) (id no size : Int) (LA : Option Addr) (ln lc : Nat) (BA : Option Addr) (bn bc : Nat) (ls : List Lc) (bs : List UInt8) (hin : RcIn w LA ln lc BA bn bc (⟨kd, ks, id, no, size, ls, bs⟩ : Rc)) (k : Int) :
    Calls Try.prog 7 #[.agg #[.int .i64 kd, .string ⟨ks.toArray⟩, .int .i64 id, .int .i64 no, .int .i64 size, .slice LA ln lc, .slice BA bn bc], .int .i64 k] w fun e w' => e = .returned (.bool true) ∧ Below w.heap.size w w' := by
  have hl1 := hin.locs.len
  have hl2 := hin.sl.len
  dsimp only at hl1 hl2
  have HI := Lib.hid hin
  clear hin
  go_enter Try.func7, Try.ntmps7
  go_wp2_with (fail)
  refine (head_any _).mono ?_
  rintro e w1 ⟨rfl, hb1⟩
  have hz := Grows.whole hb1 (Whole.made w 25 #[.int .i64 kd, .string ⟨ks.toArray⟩, .int .i64 id, .int .i64 no, .int .i64 size, .slice LA ln lc, .slice BA bn bc])
  have c0 := hz.cell 0
  have c1 := hz.cell 1
  have c2 := hz.cell 2
  have c3 := hz.cell 3
  have c4 := hz.cell 4
  have c5 := hz.cell 5
  have c6 := hz.cell 6
  simp only [List.getElem?_toArray, List.getElem?_cons_zero, List.getElem?_cons_succ] at c0 c1 c2 c3 c4 c5 c6
  have HZ := Lib.hid hz
  have HG1 := Lib.hid (Grows.trans (grows_alloc w _) hb1)
  clear hb1 hz
  go_wp2_with (fail)
  refine (great_any _ _ _ _ _ _ _ _ _ _ _ _).mono ?_
  rintro e w2 ⟨⟨g, rfl⟩, hb2⟩
  have hz := Grows.whole hb2 HZ.out
  have d0 := hz.cell 0
  have d1 := hz.cell 1
  have d2 := hz.cell 2
  have d3 := hz.cell 3
  have d4 := hz.cell 4
  have d5 := hz.cell 5
  have d6 := hz.cell 6
  simp only [List.getElem?_toArray, List.getElem?_cons_zero, List.getElem?_cons_succ] at d0 d1 d2 d3 d4 d5 d6
  have HZ2 := Lib.hid hz
  have HG2 := Lib.hid (Grows.trans HG1.out hb2)
  clear hb2 hz c0 c1 c2 c3 c4 c5 c6
  cases g with
  | true =>
    go_wp2_with (fail)
    go_ret
    exact ⟨rfl, HG2.out⟩
  | false =>
    go_wp2_with (fail)
    have hr := rcright_any (⟨kd, ks, id, no, size, ls, bs⟩ : Rc) LA ln lc BA bn bc w2 (HI.out.grow HG2.out)
    dsimp only at hr
    refine hr.mono ?_
    clear hr
    rintro e w3 ⟨rfl, hb3⟩
    have hz := Grows.whole hb3 HZ2.out
    have c0 := hz.cell 0
    have c1 := hz.cell 1
    have c2 := hz.cell 2
    have c3 := hz.cell 3
    have c4 := hz.cell 4
    have c5 := hz.cell 5
    have c6 := hz.cell 6
    simp only [List.getElem?_toArray, List.getElem?_cons_zero, List.getElem?_cons_succ] at c0 c1 c2 c3 c4 c5 c6
    have HZ3 := Lib.hid hz
    have HG3 := Lib.hid (Grows.trans HG2.out hb3)
    have hlt := hz.lt
    clear hb3 hz d0 d1 d2 d3 d4 d5 d6
    by_cases hr : RightR (⟨kd, ks, id, no, size, ls, bs⟩ : Rc)
    · have HR := Lib.hid hr
      rw [decide_eq_true hr]
      have hs := size_small hr
      dsimp only at hs
      have hw : IntKind.i64.wrap (size + 1) = size + 1 := IntWalk.i64_in _ ⟨by omega, by omega⟩
      have hw64 : wrap64 (size + 1) = size + 1 := by rw [← IntWalk.i64_left]; exact hw
      have bl := bare_like hr k
      dsimp only at bl
      have BS := Lib.hid (bare_size hr)
      have BI := Lib.hid (bare_id hr)
      clear hr
      by_cases hcase : kd = k
      · have hx : decide (RightR ⟨k, ks, id, no, size, ls, bs⟩) = true := by
          rw [decide_eq_true_eq, bl]
          omega
        have HX := Lib.hid hx
        clear hx bl
        obtain rfl := hcase
        go_wp2_with (fail)
        obtain ⟨V, hV⟩ : ∃ V, ((w3.alloc (.cells #[.int .i64 kd, .string ⟨ks.toArray⟩, .int .i64 id, .int .i64 no, .int .i64 size, .slice LA ln lc, .slice BA bn bc] 25)).alloc (.cells #[.int .i64 kd, .string ⟨ks.toArray⟩, .int .i64 id, .int .i64 no, .int .i64 (size + 1), .slice LA ln lc, .slice BA bn bc] 25)).alloc (.cells #[.int .i64 kd, .string ⟨ks.toArray⟩, .int .i64 (-1), .int .i64 no, .int .i64 size, .slice LA ln lc, .slice BA bn bc] 25) = V := ⟨_, rfl⟩
        have hg : Grows w3 V := hV ▸ Grows.trans (grows_alloc _ _) (Grows.trans (grows_alloc _ _) (grows_alloc _ _))
        have hY : Whole V (w3.heap.size + 1) 25 #[.int .i64 kd, .string ⟨ks.toArray⟩, .int .i64 id, .int .i64 no, .int .i64 (size + 1), .slice LA ln lc, .slice BA bn bc] := by
          have := Whole.made (w3.alloc (.cells #[.int .i64 kd, .string ⟨ks.toArray⟩, .int .i64 id, .int .i64 no, .int .i64 size, .slice LA ln lc, .slice BA bn bc] 25)) 25 #[.int .i64 kd, .string ⟨ks.toArray⟩, .int .i64 id, .int .i64 no, .int .i64 (size + 1), .slice LA ln lc, .slice BA bn bc]
          rw [World.size_alloc] at this
          rw [← hV]
          exact (grows_alloc _ _).whole this
        have hZ : Whole V (w3.heap.size + 1 + 1) 25 #[.int .i64 kd, .string ⟨ks.toArray⟩, .int .i64 (-1), .int .i64 no, .int .i64 size, .slice LA ln lc, .slice BA bn bc] := by
          have := Whole.made ((w3.alloc (.cells #[.int .i64 kd, .string ⟨ks.toArray⟩, .int .i64 id, .int .i64 no, .int .i64 size, .slice LA ln lc, .slice BA bn bc] 25)).alloc (.cells #[.int .i64 kd, .string ⟨ks.toArray⟩, .int .i64 id, .int .i64 no, .int .i64 (size + 1), .slice LA ln lc, .slice BA bn bc] 25)) 25 #[.int .i64 kd, .string ⟨ks.toArray⟩, .int .i64 (-1), .int .i64 no, .int .i64 size, .slice LA ln lc, .slice BA bn bc]
          rw [World.size_alloc, World.size_alloc] at this
          rw [← hV]
          exact this
        have HGV := Lib.hid (Grows.trans HG3.out hg)
        have HY := Lib.hid hY
        have HZV := Lib.hid hZ
        rw [hV]
        clear hV hg hY hZ c0 c1 c2 c3 c4 c5 c6 hlt
        have hr := rcright_any (⟨kd, ks, id, no, size, ls, bs⟩ : Rc) LA ln lc BA bn bc V ⟨(HI.out.grow HGV.out).locs, (HI.out.grow HGV.out).sl⟩
        rw [HX.out] at hr
        refine hr.mono ?_
        clear hr
        rintro e w4 ⟨rfl, hb4⟩
        have hy := Grows.whole hb4 HY.out
        have y0 := hy.cell 0
        have y1 := hy.cell 1
        have y2 := hy.cell 2
        have y3 := hy.cell 3
        have y4 := hy.cell 4
        have y5 := hy.cell 5
        have y6 := hy.cell 6
        simp only [List.getElem?_toArray, List.getElem?_cons_zero, List.getElem?_cons_succ] at y0 y1 y2 y3 y4 y5 y6
        have HZ4 := Lib.hid (Grows.whole hb4 HZV.out)
        have HG4 := Lib.hid (Grows.trans HGV.out hb4)
        clear hy hb4 HY HZV HGV
        go_wp2_with (fail)
        have hr := rcright_any (⟨kd, ks, id, no, size + 1, ls, bs⟩ : Rc) LA ln lc BA bn bc w4 ⟨(HI.out.grow HG4.out).locs, (HI.out.grow HG4.out).sl⟩
        rw [decide_eq_false BS.out] at hr
        refine hr.mono ?_
        clear hr
        rintro e w5 ⟨rfl, hb5⟩
        have hy := Grows.whole hb5 HZ4.out
        clear y0 y1 y2 y3 y4 y5 y6
        have y0 := hy.cell 0
        have y1 := hy.cell 1
        have y2 := hy.cell 2
        have y3 := hy.cell 3
        have y4 := hy.cell 4
        have y5 := hy.cell 5
        have y6 := hy.cell 6
        simp only [List.getElem?_toArray, List.getElem?_cons_zero, List.getElem?_cons_succ] at y0 y1 y2 y3 y4 y5 y6
        have HG5 := Lib.hid (Grows.trans HG4.out hb5)
        clear hy hb5 HZ4 HG4
        go_wp2_with (fail)
        have hr := rcright_any (⟨kd, ks, -1, no, size, ls, bs⟩ : Rc) LA ln lc BA bn bc w5 ⟨(HI.out.grow HG5.out).locs, (HI.out.grow HG5.out).sl⟩
        rw [decide_eq_false BI.out] at hr
        refine hr.mono ?_
        clear hr
        rintro e w6 ⟨rfl, hb6⟩
        have HG6 := Lib.hid (Grows.trans HG5.out hb6)
        clear hb6 HG5
        go_wp2_with (fail)
        go_ret
        exact ⟨rfl, HG6.out⟩
      by_cases hcase : kd = 3 ∧ k = 4 ∧ bn = 0
      · have hx : decide (RightR ⟨k, ks, id, no, size, ls, bs⟩) = true := by
          rw [decide_eq_true_eq, bl]
          omega
        have HX := Lib.hid hx
        clear hx bl
        obtain ⟨rfl, rfl, hb⟩ := hcase
        have hb' : ((bn : Int) == 0) = true := by simp; omega
        clear hb
        go_wp2_with (fail)
        obtain ⟨V, hV⟩ : ∃ V, ((w3.alloc (.cells #[.int .i64 4, .string ⟨ks.toArray⟩, .int .i64 id, .int .i64 no, .int .i64 size, .slice LA ln lc, .slice BA bn bc] 25)).alloc (.cells #[.int .i64 3, .string ⟨ks.toArray⟩, .int .i64 id, .int .i64 no, .int .i64 (size + 1), .slice LA ln lc, .slice BA bn bc] 25)).alloc (.cells #[.int .i64 3, .string ⟨ks.toArray⟩, .int .i64 (-1), .int .i64 no, .int .i64 size, .slice LA ln lc, .slice BA bn bc] 25) = V := ⟨_, rfl⟩
        have hg : Grows w3 V := hV ▸ Grows.trans (grows_alloc _ _) (Grows.trans (grows_alloc _ _) (grows_alloc _ _))
        have hY : Whole V (w3.heap.size + 1) 25 #[.int .i64 3, .string ⟨ks.toArray⟩, .int .i64 id, .int .i64 no, .int .i64 (size + 1), .slice LA ln lc, .slice BA bn bc] := by
          have := Whole.made (w3.alloc (.cells #[.int .i64 4, .string ⟨ks.toArray⟩, .int .i64 id, .int .i64 no, .int .i64 size, .slice LA ln lc, .slice BA bn bc] 25)) 25 #[.int .i64 3, .string ⟨ks.toArray⟩, .int .i64 id, .int .i64 no, .int .i64 (size + 1), .slice LA ln lc, .slice BA bn bc]
          rw [World.size_alloc] at this
          rw [← hV]
          exact (grows_alloc _ _).whole this
        have hZ : Whole V (w3.heap.size + 1 + 1) 25 #[.int .i64 3, .string ⟨ks.toArray⟩, .int .i64 (-1), .int .i64 no, .int .i64 size, .slice LA ln lc, .slice BA bn bc] := by
          have := Whole.made ((w3.alloc (.cells #[.int .i64 4, .string ⟨ks.toArray⟩, .int .i64 id, .int .i64 no, .int .i64 size, .slice LA ln lc, .slice BA bn bc] 25)).alloc (.cells #[.int .i64 3, .string ⟨ks.toArray⟩, .int .i64 id, .int .i64 no, .int .i64 (size + 1), .slice LA ln lc, .slice BA bn bc] 25)) 25 #[.int .i64 3, .string ⟨ks.toArray⟩, .int .i64 (-1), .int .i64 no, .int .i64 size, .slice LA ln lc, .slice BA bn bc]
          rw [World.size_alloc, World.size_alloc] at this
          rw [← hV]
          exact this
        have HGV := Lib.hid (Grows.trans HG3.out hg)
        have HY := Lib.hid hY
        have HZV := Lib.hid hZ
        rw [hV]
        clear hV hg hY hZ c0 c1 c2 c3 c4 c5 c6 hlt
        have hr := rcright_any (⟨4, ks, id, no, size, ls, bs⟩ : Rc) LA ln lc BA bn bc V ⟨(HI.out.grow HGV.out).locs, (HI.out.grow HGV.out).sl⟩
        rw [HX.out] at hr
        refine hr.mono ?_
        clear hr
        rintro e w4 ⟨rfl, hb4⟩
        have hy := Grows.whole hb4 HY.out
        have y0 := hy.cell 0
        have y1 := hy.cell 1
        have y2 := hy.cell 2
        have y3 := hy.cell 3
        have y4 := hy.cell 4
        have y5 := hy.cell 5
        have y6 := hy.cell 6
        simp only [List.getElem?_toArray, List.getElem?_cons_zero, List.getElem?_cons_succ] at y0 y1 y2 y3 y4 y5 y6
        have HZ4 := Lib.hid (Grows.whole hb4 HZV.out)
        have HG4 := Lib.hid (Grows.trans HGV.out hb4)
        clear hy hb4 HY HZV HGV
        go_wp2_with (fail)
        have hr := rcright_any (⟨3, ks, id, no, size + 1, ls, bs⟩ : Rc) LA ln lc BA bn bc w4 ⟨(HI.out.grow HG4.out).locs, (HI.out.grow HG4.out).sl⟩
        rw [decide_eq_false BS.out] at hr
        refine hr.mono ?_
        clear hr
        rintro e w5 ⟨rfl, hb5⟩
        have hy := Grows.whole hb5 HZ4.out
        clear y0 y1 y2 y3 y4 y5 y6
        have y0 := hy.cell 0
        have y1 := hy.cell 1
        have y2 := hy.cell 2
        have y3 := hy.cell 3
        have y4 := hy.cell 4
        have y5 := hy.cell 5
        have y6 := hy.cell 6
        simp only [List.getElem?_toArray, List.getElem?_cons_zero, List.getElem?_cons_succ] at y0 y1 y2 y3 y4 y5 y6
        have HG5 := Lib.hid (Grows.trans HG4.out hb5)
        clear hy hb5 HZ4 HG4
        go_wp2_with (fail)
        have hr := rcright_any (⟨3, ks, -1, no, size, ls, bs⟩ : Rc) LA ln lc BA bn bc w5 ⟨(HI.out.grow HG5.out).locs, (HI.out.grow HG5.out).sl⟩
        rw [decide_eq_false BI.out] at hr
        refine hr.mono ?_
        clear hr
        rintro e w6 ⟨rfl, hb6⟩
        have HG6 := Lib.hid (Grows.trans HG5.out hb6)
        clear hb6 HG5
        go_wp2_with (fail)
        go_ret
        exact ⟨rfl, HG6.out⟩
      by_cases hcase : kd = 4 ∧ k = 3
      · have hx : decide (RightR ⟨k, ks, id, no, size, ls, bs⟩) = true := by
          rw [decide_eq_true_eq, bl]
          omega
        have HX := Lib.hid hx
        clear hx bl
        obtain ⟨rfl, rfl⟩ := hcase
        go_wp2_with (fail)
        obtain ⟨V, hV⟩ : ∃ V, ((w3.alloc (.cells #[.int .i64 3, .string ⟨ks.toArray⟩, .int .i64 id, .int .i64 no, .int .i64 size, .slice LA ln lc, .slice BA bn bc] 25)).alloc (.cells #[.int .i64 4, .string ⟨ks.toArray⟩, .int .i64 id, .int .i64 no, .int .i64 (size + 1), .slice LA ln lc, .slice BA bn bc] 25)).alloc (.cells #[.int .i64 4, .string ⟨ks.toArray⟩, .int .i64 (-1), .int .i64 no, .int .i64 size, .slice LA ln lc, .slice BA bn bc] 25) = V := ⟨_, rfl⟩
        have hg : Grows w3 V := hV ▸ Grows.trans (grows_alloc _ _) (Grows.trans (grows_alloc _ _) (grows_alloc _ _))
        have hY : Whole V (w3.heap.size + 1) 25 #[.int .i64 4, .string ⟨ks.toArray⟩, .int .i64 id, .int .i64 no, .int .i64 (size + 1), .slice LA ln lc, .slice BA bn bc] := by
          have := Whole.made (w3.alloc (.cells #[.int .i64 3, .string ⟨ks.toArray⟩, .int .i64 id, .int .i64 no, .int .i64 size, .slice LA ln lc, .slice BA bn bc] 25)) 25 #[.int .i64 4, .string ⟨ks.toArray⟩, .int .i64 id, .int .i64 no, .int .i64 (size + 1), .slice LA ln lc, .slice BA bn bc]
          rw [World.size_alloc] at this
          rw [← hV]
          exact (grows_alloc _ _).whole this
        have hZ : Whole V (w3.heap.size + 1 + 1) 25 #[.int .i64 4, .string ⟨ks.toArray⟩, .int .i64 (-1), .int .i64 no, .int .i64 size, .slice LA ln lc, .slice BA bn bc] := by
          have := Whole.made ((w3.alloc (.cells #[.int .i64 3, .string ⟨ks.toArray⟩, .int .i64 id, .int .i64 no, .int .i64 size, .slice LA ln lc, .slice BA bn bc] 25)).alloc (.cells #[.int .i64 4, .string ⟨ks.toArray⟩, .int .i64 id, .int .i64 no, .int .i64 (size + 1), .slice LA ln lc, .slice BA bn bc] 25)) 25 #[.int .i64 4, .string ⟨ks.toArray⟩, .int .i64 (-1), .int .i64 no, .int .i64 size, .slice LA ln lc, .slice BA bn bc]
          rw [World.size_alloc, World.size_alloc] at this
          rw [← hV]
          exact this
        have HGV := Lib.hid (Grows.trans HG3.out hg)
        have HY := Lib.hid hY
        have HZV := Lib.hid hZ
        rw [hV]
        clear hV hg hY hZ c0 c1 c2 c3 c4 c5 c6 hlt
        have hr := rcright_any (⟨3, ks, id, no, size, ls, bs⟩ : Rc) LA ln lc BA bn bc V ⟨(HI.out.grow HGV.out).locs, (HI.out.grow HGV.out).sl⟩
        rw [HX.out] at hr
        refine hr.mono ?_
        clear hr
        rintro e w4 ⟨rfl, hb4⟩
        have hy := Grows.whole hb4 HY.out
        have y0 := hy.cell 0
        have y1 := hy.cell 1
        have y2 := hy.cell 2
        have y3 := hy.cell 3
        have y4 := hy.cell 4
        have y5 := hy.cell 5
        have y6 := hy.cell 6
        simp only [List.getElem?_toArray, List.getElem?_cons_zero, List.getElem?_cons_succ] at y0 y1 y2 y3 y4 y5 y6
        have HZ4 := Lib.hid (Grows.whole hb4 HZV.out)
        have HG4 := Lib.hid (Grows.trans HGV.out hb4)
        clear hy hb4 HY HZV HGV
        go_wp2_with (fail)
        have hr := rcright_any (⟨4, ks, id, no, size + 1, ls, bs⟩ : Rc) LA ln lc BA bn bc w4 ⟨(HI.out.grow HG4.out).locs, (HI.out.grow HG4.out).sl⟩
        rw [decide_eq_false BS.out] at hr
        refine hr.mono ?_
        clear hr
        rintro e w5 ⟨rfl, hb5⟩
        have hy := Grows.whole hb5 HZ4.out
        clear y0 y1 y2 y3 y4 y5 y6
        have y0 := hy.cell 0
        have y1 := hy.cell 1
        have y2 := hy.cell 2
        have y3 := hy.cell 3
        have y4 := hy.cell 4
        have y5 := hy.cell 5
        have y6 := hy.cell 6
        simp only [List.getElem?_toArray, List.getElem?_cons_zero, List.getElem?_cons_succ] at y0 y1 y2 y3 y4 y5 y6
        have HG5 := Lib.hid (Grows.trans HG4.out hb5)
        clear hy hb5 HZ4 HG4
        go_wp2_with (fail)
        have hr := rcright_any (⟨4, ks, -1, no, size, ls, bs⟩ : Rc) LA ln lc BA bn bc w5 ⟨(HI.out.grow HG5.out).locs, (HI.out.grow HG5.out).sl⟩
        rw [decide_eq_false BI.out] at hr
        refine hr.mono ?_
        clear hr
        rintro e w6 ⟨rfl, hb6⟩
        have HG6 := Lib.hid (Grows.trans HG5.out hb6)
        clear hb6 HG5
        go_wp2_with (fail)
        go_ret
        exact ⟨rfl, HG6.out⟩
      by_cases hcase : kd = 3 ∧ k = 4 ∧ ¬ bn = 0
      · have hx : decide (RightR ⟨k, ks, id, no, size, ls, bs⟩) = false := by
          rw [decide_eq_false_iff_not, bl]
          omega
        have HX := Lib.hid hx
        clear hx bl
        obtain ⟨rfl, rfl, hb⟩ := hcase
        have hb' : ((bn : Int) == 0) = false := by simp; omega
        go_wp2_with (fail)
        obtain ⟨V, hV⟩ : ∃ V, ((w3.alloc (.cells #[.int .i64 4, .string ⟨ks.toArray⟩, .int .i64 id, .int .i64 no, .int .i64 size, .slice LA ln lc, .slice BA bn bc] 25)).alloc (.cells #[.int .i64 3, .string ⟨ks.toArray⟩, .int .i64 id, .int .i64 no, .int .i64 (size + 1), .slice LA ln lc, .slice BA bn bc] 25)).alloc (.cells #[.int .i64 3, .string ⟨ks.toArray⟩, .int .i64 (-1), .int .i64 no, .int .i64 size, .slice LA ln lc, .slice BA bn bc] 25) = V := ⟨_, rfl⟩
        have hg : Grows w3 V := hV ▸ Grows.trans (grows_alloc _ _) (Grows.trans (grows_alloc _ _) (grows_alloc _ _))
        have hY : Whole V (w3.heap.size + 1) 25 #[.int .i64 3, .string ⟨ks.toArray⟩, .int .i64 id, .int .i64 no, .int .i64 (size + 1), .slice LA ln lc, .slice BA bn bc] := by
          have := Whole.made (w3.alloc (.cells #[.int .i64 4, .string ⟨ks.toArray⟩, .int .i64 id, .int .i64 no, .int .i64 size, .slice LA ln lc, .slice BA bn bc] 25)) 25 #[.int .i64 3, .string ⟨ks.toArray⟩, .int .i64 id, .int .i64 no, .int .i64 (size + 1), .slice LA ln lc, .slice BA bn bc]
          rw [World.size_alloc] at this
          rw [← hV]
          exact (grows_alloc _ _).whole this
        have hZ : Whole V (w3.heap.size + 1 + 1) 25 #[.int .i64 3, .string ⟨ks.toArray⟩, .int .i64 (-1), .int .i64 no, .int .i64 size, .slice LA ln lc, .slice BA bn bc] := by
          have := Whole.made ((w3.alloc (.cells #[.int .i64 4, .string ⟨ks.toArray⟩, .int .i64 id, .int .i64 no, .int .i64 size, .slice LA ln lc, .slice BA bn bc] 25)).alloc (.cells #[.int .i64 3, .string ⟨ks.toArray⟩, .int .i64 id, .int .i64 no, .int .i64 (size + 1), .slice LA ln lc, .slice BA bn bc] 25)) 25 #[.int .i64 3, .string ⟨ks.toArray⟩, .int .i64 (-1), .int .i64 no, .int .i64 size, .slice LA ln lc, .slice BA bn bc]
          rw [World.size_alloc, World.size_alloc] at this
          rw [← hV]
          exact this
        have HGV := Lib.hid (Grows.trans HG3.out hg)
        have HY := Lib.hid hY
        have HZV := Lib.hid hZ
        rw [hV]
        clear hV hg hY hZ c0 c1 c2 c3 c4 c5 c6 hlt
        have hr := rcright_any (⟨4, ks, id, no, size, ls, bs⟩ : Rc) LA ln lc BA bn bc V ⟨(HI.out.grow HGV.out).locs, (HI.out.grow HGV.out).sl⟩
        rw [HX.out] at hr
        refine hr.mono ?_
        clear hr
        rintro e w4 ⟨rfl, hb4⟩
        have hy := Grows.whole hb4 HY.out
        have y0 := hy.cell 0
        have y1 := hy.cell 1
        have y2 := hy.cell 2
        have y3 := hy.cell 3
        have y4 := hy.cell 4
        have y5 := hy.cell 5
        have y6 := hy.cell 6
        simp only [List.getElem?_toArray, List.getElem?_cons_zero, List.getElem?_cons_succ] at y0 y1 y2 y3 y4 y5 y6
        have HZ4 := Lib.hid (Grows.whole hb4 HZV.out)
        have HG4 := Lib.hid (Grows.trans HGV.out hb4)
        clear hy hb4 HY HZV HGV
        go_wp2_with (fail)
        have hr := rcright_any (⟨3, ks, id, no, size + 1, ls, bs⟩ : Rc) LA ln lc BA bn bc w4 ⟨(HI.out.grow HG4.out).locs, (HI.out.grow HG4.out).sl⟩
        rw [decide_eq_false BS.out] at hr
        refine hr.mono ?_
        clear hr
        rintro e w5 ⟨rfl, hb5⟩
        have hy := Grows.whole hb5 HZ4.out
        clear y0 y1 y2 y3 y4 y5 y6
        have y0 := hy.cell 0
        have y1 := hy.cell 1
        have y2 := hy.cell 2
        have y3 := hy.cell 3
        have y4 := hy.cell 4
        have y5 := hy.cell 5
        have y6 := hy.cell 6
        simp only [List.getElem?_toArray, List.getElem?_cons_zero, List.getElem?_cons_succ] at y0 y1 y2 y3 y4 y5 y6
        have HG5 := Lib.hid (Grows.trans HG4.out hb5)
        clear hy hb5 HZ4 HG4
        go_wp2_with (fail)
        have hr := rcright_any (⟨3, ks, -1, no, size, ls, bs⟩ : Rc) LA ln lc BA bn bc w5 ⟨(HI.out.grow HG5.out).locs, (HI.out.grow HG5.out).sl⟩
        rw [decide_eq_false BI.out] at hr
        refine hr.mono ?_
        clear hr
        rintro e w6 ⟨rfl, hb6⟩
        have HG6 := Lib.hid (Grows.trans HG5.out hb6)
        clear hb6 HG5
        go_wp2_with (fail)
        go_ret
        exact ⟨rfl, HG6.out⟩
      by_cases hcase : k = 4 ∧ ¬ kd = 3 ∧ ¬ kd = 4
      · have hx : decide (RightR ⟨k, ks, id, no, size, ls, bs⟩) = false := by
          rw [decide_eq_false_iff_not, bl]
          omega
        have HX := Lib.hid hx
        clear hx bl
        obtain ⟨rfl, h3, h4⟩ := hcase
        have h3' : (kd == 3) = false := by simpa using h3
        have h4' : ((4 : Int) == kd) = false := by simp; omega
        go_wp2_with (fail)
        obtain ⟨V, hV⟩ : ∃ V, ((w3.alloc (.cells #[.int .i64 4, .string ⟨ks.toArray⟩, .int .i64 id, .int .i64 no, .int .i64 size, .slice LA ln lc, .slice BA bn bc] 25)).alloc (.cells #[.int .i64 kd, .string ⟨ks.toArray⟩, .int .i64 id, .int .i64 no, .int .i64 (size + 1), .slice LA ln lc, .slice BA bn bc] 25)).alloc (.cells #[.int .i64 kd, .string ⟨ks.toArray⟩, .int .i64 (-1), .int .i64 no, .int .i64 size, .slice LA ln lc, .slice BA bn bc] 25) = V := ⟨_, rfl⟩
        have hg : Grows w3 V := hV ▸ Grows.trans (grows_alloc _ _) (Grows.trans (grows_alloc _ _) (grows_alloc _ _))
        have hY : Whole V (w3.heap.size + 1) 25 #[.int .i64 kd, .string ⟨ks.toArray⟩, .int .i64 id, .int .i64 no, .int .i64 (size + 1), .slice LA ln lc, .slice BA bn bc] := by
          have := Whole.made (w3.alloc (.cells #[.int .i64 4, .string ⟨ks.toArray⟩, .int .i64 id, .int .i64 no, .int .i64 size, .slice LA ln lc, .slice BA bn bc] 25)) 25 #[.int .i64 kd, .string ⟨ks.toArray⟩, .int .i64 id, .int .i64 no, .int .i64 (size + 1), .slice LA ln lc, .slice BA bn bc]
          rw [World.size_alloc] at this
          rw [← hV]
          exact (grows_alloc _ _).whole this
        have hZ : Whole V (w3.heap.size + 1 + 1) 25 #[.int .i64 kd, .string ⟨ks.toArray⟩, .int .i64 (-1), .int .i64 no, .int .i64 size, .slice LA ln lc, .slice BA bn bc] := by
          have := Whole.made ((w3.alloc (.cells #[.int .i64 4, .string ⟨ks.toArray⟩, .int .i64 id, .int .i64 no, .int .i64 size, .slice LA ln lc, .slice BA bn bc] 25)).alloc (.cells #[.int .i64 kd, .string ⟨ks.toArray⟩, .int .i64 id, .int .i64 no, .int .i64 (size + 1), .slice LA ln lc, .slice BA bn bc] 25)) 25 #[.int .i64 kd, .string ⟨ks.toArray⟩, .int .i64 (-1), .int .i64 no, .int .i64 size, .slice LA ln lc, .slice BA bn bc]
          rw [World.size_alloc, World.size_alloc] at this
          rw [← hV]
          exact this
        have HGV := Lib.hid (Grows.trans HG3.out hg)
        have HY := Lib.hid hY
        have HZV := Lib.hid hZ
        rw [hV]
        clear hV hg hY hZ c0 c1 c2 c3 c4 c5 c6 hlt
        have hr := rcright_any (⟨4, ks, id, no, size, ls, bs⟩ : Rc) LA ln lc BA bn bc V ⟨(HI.out.grow HGV.out).locs, (HI.out.grow HGV.out).sl⟩
        rw [HX.out] at hr
        refine hr.mono ?_
        clear hr
        rintro e w4 ⟨rfl, hb4⟩
        have hy := Grows.whole hb4 HY.out
        have y0 := hy.cell 0
        have y1 := hy.cell 1
        have y2 := hy.cell 2
        have y3 := hy.cell 3
        have y4 := hy.cell 4
        have y5 := hy.cell 5
        have y6 := hy.cell 6
        simp only [List.getElem?_toArray, List.getElem?_cons_zero, List.getElem?_cons_succ] at y0 y1 y2 y3 y4 y5 y6
        have HZ4 := Lib.hid (Grows.whole hb4 HZV.out)
        have HG4 := Lib.hid (Grows.trans HGV.out hb4)
        clear hy hb4 HY HZV HGV
        go_wp2_with (fail)
        have hr := rcright_any (⟨kd, ks, id, no, size + 1, ls, bs⟩ : Rc) LA ln lc BA bn bc w4 ⟨(HI.out.grow HG4.out).locs, (HI.out.grow HG4.out).sl⟩
        rw [decide_eq_false BS.out] at hr
        refine hr.mono ?_
        clear hr
        rintro e w5 ⟨rfl, hb5⟩
        have hy := Grows.whole hb5 HZ4.out
        clear y0 y1 y2 y3 y4 y5 y6
        have y0 := hy.cell 0
        have y1 := hy.cell 1
        have y2 := hy.cell 2
        have y3 := hy.cell 3
        have y4 := hy.cell 4
        have y5 := hy.cell 5
        have y6 := hy.cell 6
        simp only [List.getElem?_toArray, List.getElem?_cons_zero, List.getElem?_cons_succ] at y0 y1 y2 y3 y4 y5 y6
        have HG5 := Lib.hid (Grows.trans HG4.out hb5)
        clear hy hb5 HZ4 HG4
        go_wp2_with (fail)
        have hr := rcright_any (⟨kd, ks, -1, no, size, ls, bs⟩ : Rc) LA ln lc BA bn bc w5 ⟨(HI.out.grow HG5.out).locs, (HI.out.grow HG5.out).sl⟩
        rw [decide_eq_false BI.out] at hr
        refine hr.mono ?_
        clear hr
        rintro e w6 ⟨rfl, hb6⟩
        have HG6 := Lib.hid (Grows.trans HG5.out hb6)
        clear hb6 HG5
        go_wp2_with (fail)
        go_ret
        exact ⟨rfl, HG6.out⟩
      by_cases hcase : k = 3 ∧ ¬ kd = 3 ∧ ¬ kd = 4
      · have hx : decide (RightR ⟨k, ks, id, no, size, ls, bs⟩) = false := by
          rw [decide_eq_false_iff_not, bl]
          omega
        have HX := Lib.hid hx
        clear hx bl
        obtain ⟨rfl, h3, h4⟩ := hcase
        have h3' : ((3 : Int) == kd) = false := by simp; omega
        have h4' : (kd == 4) = false := by simpa using h4
        go_wp2_with (fail)
        obtain ⟨V, hV⟩ : ∃ V, ((w3.alloc (.cells #[.int .i64 3, .string ⟨ks.toArray⟩, .int .i64 id, .int .i64 no, .int .i64 size, .slice LA ln lc, .slice BA bn bc] 25)).alloc (.cells #[.int .i64 kd, .string ⟨ks.toArray⟩, .int .i64 id, .int .i64 no, .int .i64 (size + 1), .slice LA ln lc, .slice BA bn bc] 25)).alloc (.cells #[.int .i64 kd, .string ⟨ks.toArray⟩, .int .i64 (-1), .int .i64 no, .int .i64 size, .slice LA ln lc, .slice BA bn bc] 25) = V := ⟨_, rfl⟩
        have hg : Grows w3 V := hV ▸ Grows.trans (grows_alloc _ _) (Grows.trans (grows_alloc _ _) (grows_alloc _ _))
        have hY : Whole V (w3.heap.size + 1) 25 #[.int .i64 kd, .string ⟨ks.toArray⟩, .int .i64 id, .int .i64 no, .int .i64 (size + 1), .slice LA ln lc, .slice BA bn bc] := by
          have := Whole.made (w3.alloc (.cells #[.int .i64 3, .string ⟨ks.toArray⟩, .int .i64 id, .int .i64 no, .int .i64 size, .slice LA ln lc, .slice BA bn bc] 25)) 25 #[.int .i64 kd, .string ⟨ks.toArray⟩, .int .i64 id, .int .i64 no, .int .i64 (size + 1), .slice LA ln lc, .slice BA bn bc]
          rw [World.size_alloc] at this
          rw [← hV]
          exact (grows_alloc _ _).whole this
        have hZ : Whole V (w3.heap.size + 1 + 1) 25 #[.int .i64 kd, .string ⟨ks.toArray⟩, .int .i64 (-1), .int .i64 no, .int .i64 size, .slice LA ln lc, .slice BA bn bc] := by
          have := Whole.made ((w3.alloc (.cells #[.int .i64 3, .string ⟨ks.toArray⟩, .int .i64 id, .int .i64 no, .int .i64 size, .slice LA ln lc, .slice BA bn bc] 25)).alloc (.cells #[.int .i64 kd, .string ⟨ks.toArray⟩, .int .i64 id, .int .i64 no, .int .i64 (size + 1), .slice LA ln lc, .slice BA bn bc] 25)) 25 #[.int .i64 kd, .string ⟨ks.toArray⟩, .int .i64 (-1), .int .i64 no, .int .i64 size, .slice LA ln lc, .slice BA bn bc]
          rw [World.size_alloc, World.size_alloc] at this
          rw [← hV]
          exact this
        have HGV := Lib.hid (Grows.trans HG3.out hg)
        have HY := Lib.hid hY
        have HZV := Lib.hid hZ
        rw [hV]
        clear hV hg hY hZ c0 c1 c2 c3 c4 c5 c6 hlt
        have hr := rcright_any (⟨3, ks, id, no, size, ls, bs⟩ : Rc) LA ln lc BA bn bc V ⟨(HI.out.grow HGV.out).locs, (HI.out.grow HGV.out).sl⟩
        rw [HX.out] at hr
        refine hr.mono ?_
        clear hr
        rintro e w4 ⟨rfl, hb4⟩
        have hy := Grows.whole hb4 HY.out
        have y0 := hy.cell 0
        have y1 := hy.cell 1
        have y2 := hy.cell 2
        have y3 := hy.cell 3
        have y4 := hy.cell 4
        have y5 := hy.cell 5
        have y6 := hy.cell 6
        simp only [List.getElem?_toArray, List.getElem?_cons_zero, List.getElem?_cons_succ] at y0 y1 y2 y3 y4 y5 y6
        have HZ4 := Lib.hid (Grows.whole hb4 HZV.out)
        have HG4 := Lib.hid (Grows.trans HGV.out hb4)
        clear hy hb4 HY HZV HGV
        go_wp2_with (fail)
        have hr := rcright_any (⟨kd, ks, id, no, size + 1, ls, bs⟩ : Rc) LA ln lc BA bn bc w4 ⟨(HI.out.grow HG4.out).locs, (HI.out.grow HG4.out).sl⟩
        rw [decide_eq_false BS.out] at hr
        refine hr.mono ?_
        clear hr
        rintro e w5 ⟨rfl, hb5⟩
        have hy := Grows.whole hb5 HZ4.out
        clear y0 y1 y2 y3 y4 y5 y6
        have y0 := hy.cell 0
        have y1 := hy.cell 1
        have y2 := hy.cell 2
        have y3 := hy.cell 3
        have y4 := hy.cell 4
        have y5 := hy.cell 5
        have y6 := hy.cell 6
        simp only [List.getElem?_toArray, List.getElem?_cons_zero, List.getElem?_cons_succ] at y0 y1 y2 y3 y4 y5 y6
        have HG5 := Lib.hid (Grows.trans HG4.out hb5)
        clear hy hb5 HZ4 HG4
        go_wp2_with (fail)
        have hr := rcright_any (⟨kd, ks, -1, no, size, ls, bs⟩ : Rc) LA ln lc BA bn bc w5 ⟨(HI.out.grow HG5.out).locs, (HI.out.grow HG5.out).sl⟩
        rw [decide_eq_false BI.out] at hr
        refine hr.mono ?_
        clear hr
        rintro e w6 ⟨rfl, hb6⟩
        have HG6 := Lib.hid (Grows.trans HG5.out hb6)
        clear hb6 HG5
        go_wp2_with (fail)
        go_ret
        exact ⟨rfl, HG6.out⟩
      by_cases hcase : ¬ k = kd ∧ ¬ k = 3 ∧ ¬ k = 4
      · have hx : decide (RightR ⟨k, ks, id, no, size, ls, bs⟩) = false := by
          rw [decide_eq_false_iff_not, bl]
          omega
        have HX := Lib.hid hx
        clear hx bl
        obtain ⟨h1, h3, h4⟩ := hcase
        have h1' : (k == kd) = false := by simpa using h1
        have h3' : (k == 3) = false := by simpa using h3
        have h4' : (k == 4) = false := by simpa using h4
        go_wp2_with (fail)
        obtain ⟨V, hV⟩ : ∃ V, ((w3.alloc (.cells #[.int .i64 k, .string ⟨ks.toArray⟩, .int .i64 id, .int .i64 no, .int .i64 size, .slice LA ln lc, .slice BA bn bc] 25)).alloc (.cells #[.int .i64 kd, .string ⟨ks.toArray⟩, .int .i64 id, .int .i64 no, .int .i64 (size + 1), .slice LA ln lc, .slice BA bn bc] 25)).alloc (.cells #[.int .i64 kd, .string ⟨ks.toArray⟩, .int .i64 (-1), .int .i64 no, .int .i64 size, .slice LA ln lc, .slice BA bn bc] 25) = V := ⟨_, rfl⟩
        have hg : Grows w3 V := hV ▸ Grows.trans (grows_alloc _ _) (Grows.trans (grows_alloc _ _) (grows_alloc _ _))
        have hY : Whole V (w3.heap.size + 1) 25 #[.int .i64 kd, .string ⟨ks.toArray⟩, .int .i64 id, .int .i64 no, .int .i64 (size + 1), .slice LA ln lc, .slice BA bn bc] := by
          have := Whole.made (w3.alloc (.cells #[.int .i64 k, .string ⟨ks.toArray⟩, .int .i64 id, .int .i64 no, .int .i64 size, .slice LA ln lc, .slice BA bn bc] 25)) 25 #[.int .i64 kd, .string ⟨ks.toArray⟩, .int .i64 id, .int .i64 no, .int .i64 (size + 1), .slice LA ln lc, .slice BA bn bc]
          rw [World.size_alloc] at this
          rw [← hV]
          exact (grows_alloc _ _).whole this
        have hZ : Whole V (w3.heap.size + 1 + 1) 25 #[.int .i64 kd, .string ⟨ks.toArray⟩, .int .i64 (-1), .int .i64 no, .int .i64 size, .slice LA ln lc, .slice BA bn bc] := by
          have := Whole.made ((w3.alloc (.cells #[.int .i64 k, .string ⟨ks.toArray⟩, .int .i64 id, .int .i64 no, .int .i64 size, .slice LA ln lc, .slice BA bn bc] 25)).alloc (.cells #[.int .i64 kd, .string ⟨ks.toArray⟩, .int .i64 id, .int .i64 no, .int .i64 (size + 1), .slice LA ln lc, .slice BA bn bc] 25)) 25 #[.int .i64 kd, .string ⟨ks.toArray⟩, .int .i64 (-1), .int .i64 no, .int .i64 size, .slice LA ln lc, .slice BA bn bc]
          rw [World.size_alloc, World.size_alloc] at this
          rw [← hV]
          exact this
        have HGV := Lib.hid (Grows.trans HG3.out hg)
        have HY := Lib.hid hY
        have HZV := Lib.hid hZ
        rw [hV]
        clear hV hg hY hZ c0 c1 c2 c3 c4 c5 c6 hlt
        have hr := rcright_any (⟨k, ks, id, no, size, ls, bs⟩ : Rc) LA ln lc BA bn bc V ⟨(HI.out.grow HGV.out).locs, (HI.out.grow HGV.out).sl⟩
        rw [HX.out] at hr
        refine hr.mono ?_
        clear hr
        rintro e w4 ⟨rfl, hb4⟩
        have hy := Grows.whole hb4 HY.out
        have y0 := hy.cell 0
        have y1 := hy.cell 1
        have y2 := hy.cell 2
        have y3 := hy.cell 3
        have y4 := hy.cell 4
        have y5 := hy.cell 5
        have y6 := hy.cell 6
        simp only [List.getElem?_toArray, List.getElem?_cons_zero, List.getElem?_cons_succ] at y0 y1 y2 y3 y4 y5 y6
        have HZ4 := Lib.hid (Grows.whole hb4 HZV.out)
        have HG4 := Lib.hid (Grows.trans HGV.out hb4)
        clear hy hb4 HY HZV HGV
        go_wp2_with (fail)
        have hr := rcright_any (⟨kd, ks, id, no, size + 1, ls, bs⟩ : Rc) LA ln lc BA bn bc w4 ⟨(HI.out.grow HG4.out).locs, (HI.out.grow HG4.out).sl⟩
        rw [decide_eq_false BS.out] at hr
        refine hr.mono ?_
        clear hr
        rintro e w5 ⟨rfl, hb5⟩
        have hy := Grows.whole hb5 HZ4.out
        clear y0 y1 y2 y3 y4 y5 y6
        have y0 := hy.cell 0
        have y1 := hy.cell 1
        have y2 := hy.cell 2
        have y3 := hy.cell 3
        have y4 := hy.cell 4
        have y5 := hy.cell 5
        have y6 := hy.cell 6
        simp only [List.getElem?_toArray, List.getElem?_cons_zero, List.getElem?_cons_succ] at y0 y1 y2 y3 y4 y5 y6
        have HG5 := Lib.hid (Grows.trans HG4.out hb5)
        clear hy hb5 HZ4 HG4
        go_wp2_with (fail)
        have hr := rcright_any (⟨kd, ks, -1, no, size, ls, bs⟩ : Rc) LA ln lc BA bn bc w5 ⟨(HI.out.grow HG5.out).locs, (HI.out.grow HG5.out).sl⟩
        rw [decide_eq_false BI.out] at hr
        refine hr.mono ?_
        clear hr
        rintro e w6 ⟨rfl, hb6⟩
        have HG6 := Lib.hid (Grows.trans HG5.out hb6)
        clear hb6 HG5
        go_wp2_with (fail)
        go_ret
        exact ⟨rfl, HG6.out⟩
      exfalso
      omega
    · rw [decide_eq_false hr]
      go_wp2_with (fail)
      go_ret
      exact ⟨rfl, HG3.out⟩

set_option maxRecDepth 100000 in
theorem recBare_lifted (os : Os) (started : os.Started) (H : Type) (enc : TypeId × Value → H) :
    ReturnsInHanded {} Try.checked os 7 .any (Rows.recBareSpec.pre6 enc Try.prog Try.f7 Rows.recBareRow.domain false) (Rows.recBareSpec.post enc Try.prog Try.f7 false true false false) := by
  refine lift_law (C := Try.checked) H enc own started (by kernel_rfl) Try.func7
    (ChangeSpec.witness6 (enc := enc) (C := Try.checked) false ⟨#[], #[.agg #[.int .i64 0, .string ⟨#[]⟩, .int .i64 0, .int .i64 0, .int .i64 0, .slice none 0 0, .slice none 0 0], .int .i64 0], []⟩ 16 (by kernel_rfl) (by kernel_rfl) (by kernel_rfl) (by kernel_rfl))
    laidOut (of_readable (by kernel_rfl)) rfl Try.underlying4 rfl (fun ds hd => ?_) (fun W base args ds p hval hA hsz => ?_)
  · match ds, hd with
    | [d1, d2], _ => rfl
  · rw [Try.params7] at hA hval hsz
    obtain ⟨v0, vs0, d0, ds0, p0, q0, hargs, rfl, rfl, h0, r0⟩ := trodAll_cons hA
    obtain ⟨v1, vs1, d1, ds1, p1, q1, rfl, rfl, rfl, h1, r1⟩ := trodAll_cons r0
    obtain ⟨rfl, rfl, rfl⟩ := trodAll_nil r1
    obtain rfl : args = #[v0, v1] := by cases args; simp_all
    obtain ⟨x0, LA0, ln0, lc0, BA0, bn0, bc0, rfl, hx0⟩ := open_rec (hval 0 25 v0 rfl rfl) h0
    obtain ⟨kd0, ks0, id0, no0, size0, ls0, bs0⟩ := x0
    obtain ⟨a1, rfl, _, _, w1⟩ := open_int Try.underlying3 (hval 1 3 v1 rfl rfl) h1
    have b1 := bounds_i64 w1
    exact recBare_law kd0 ks0 id0 no0 size0 LA0 ln0 lc0 BA0 bn0 bc0 ls0 bs0 hx0 a1

theorem recBare_over : Rows.recBareRow.holds Try.pinned (OpenSpec.ofChange Rows.recBareSpec) :=
  OpenClaim.holds_of_wide 7 Try.f7 rfl rfl rfl rfl rfl rfl rfl ⟨rfl, rfl, rfl, rfl, rfl⟩ rfl rfl rfl rfl rfl (by kernel_rfl) Try.func7 (by kernel_rfl)
    (of_decide_eq_true (by kernel_rfl)) (by unfold Func.isWrapper; first | (rw [if_pos (by decide +kernel)]; kernel_rfl) | (rw [if_neg (by decide +kernel)]; exact ⟨rfl, rfl⟩))
    (fun os started H enc _ => recBare_lifted os started H enc)
theorem recBare_holds : Rows.RecBareSaid := recBare_over
end Go.Proofs.Ytmfhpfehphbklaa
