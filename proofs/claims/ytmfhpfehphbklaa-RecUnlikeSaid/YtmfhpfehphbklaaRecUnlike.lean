/-
  RecUnlike holds of any two records: unlike right records have unlike bytes; no condition.
-/
import Derived.Test.YtmfhpfehphbklaaRcHead
import Derived.Test.YtmfhpfehphbklaaRcIn
import Derived.Test.YtmfhpfehphbklaaRcBack
import Derived.ProofKit
import Derived.ChangeOld
namespace Go.Proofs.Ytmfhpfehphbklaa
open Go.ChangeShapes Go.WideShapes Go.ChangeAt Go.RowKit
set_option linter.unusedSimpArgs false
set_option linter.unusedVariables false


attribute [local irreducible] Go.wpQuiet
set_option maxRecDepth 100000 in
set_option maxHeartbeats 8000000 in
theorem recUnlike_law {w : World} (kd0 : Int) (ks0 : List UInt8) (id0 no0 size0 : Int) (LA0 : Option Addr) (ln0 lc0 : Nat) (BA0 : Option Addr) (bn0 bc0 : Nat) (ls0 : List Lc) (bs0 : List UInt8) (hin0 : RcIn w LA0 ln0 lc0 BA0 bn0 bc0 (⟨kd0, ks0, id0, no0, size0, ls0, bs0⟩ : Rc)) (kd1 : Int) (ks1 : List UInt8) (id1 no1 size1 : Int) (LA1 : Option Addr) (ln1 lc1 : Nat) (BA1 : Option Addr) (bn1 bc1 : Nat) (ls1 : List Lc) (bs1 : List UInt8) (hin1 : RcIn w LA1 ln1 lc1 BA1 bn1 bc1 (⟨kd1, ks1, id1, no1, size1, ls1, bs1⟩ : Rc)) :
    Calls Try.prog 6 #[.agg #[.int .i64 kd0, .string ⟨ks0.toArray⟩, .int .i64 id0, .int .i64 no0, .int .i64 size0, .slice LA0 ln0 lc0, .slice BA0 bn0 bc0], .agg #[.int .i64 kd1, .string ⟨ks1.toArray⟩, .int .i64 id1, .int .i64 no1, .int .i64 size1, .slice LA1 ln1 lc1, .slice BA1 bn1 bc1]] w fun e w' => e = .returned (.bool true) ∧ Below w.heap.size w w' := by
  have HI0 := Lib.hid hin0
  have HI1 := Lib.hid hin1
  have hx0 := (grows_alloc (w.alloc (.cells #[.int .i64 kd0, .string ⟨ks0.toArray⟩, .int .i64 id0, .int .i64 no0, .int .i64 size0, .slice LA0 ln0 lc0, .slice BA0 bn0 bc0] 25)) (.cells #[.int .i64 kd1, .string ⟨ks1.toArray⟩, .int .i64 id1, .int .i64 no1, .int .i64 size1, .slice LA1 ln1 lc1, .slice BA1 bn1 bc1] 25)).whole (Whole.made w 25 #[.int .i64 kd0, .string ⟨ks0.toArray⟩, .int .i64 id0, .int .i64 no0, .int .i64 size0, .slice LA0 ln0 lc0, .slice BA0 bn0 bc0])
  have hy0 := Whole.made (w.alloc (.cells #[.int .i64 kd0, .string ⟨ks0.toArray⟩, .int .i64 id0, .int .i64 no0, .int .i64 size0, .slice LA0 ln0 lc0, .slice BA0 bn0 bc0] 25)) 25 #[.int .i64 kd1, .string ⟨ks1.toArray⟩, .int .i64 id1, .int .i64 no1, .int .i64 size1, .slice LA1 ln1 lc1, .slice BA1 bn1 bc1]
  rw [World.size_alloc] at hy0
  have HX0 := Lib.hid hx0
  have HY0 := Lib.hid hy0
  have HG0 := Lib.hid (Grows.trans (grows_alloc w (.cells #[.int .i64 kd0, .string ⟨ks0.toArray⟩, .int .i64 id0, .int .i64 no0, .int .i64 size0, .slice LA0 ln0 lc0, .slice BA0 bn0 bc0] 25)) (grows_alloc _ (.cells #[.int .i64 kd1, .string ⟨ks1.toArray⟩, .int .i64 id1, .int .i64 no1, .int .i64 size1, .slice LA1 ln1 lc1, .slice BA1 bn1 bc1] 25)))
  clear hin0 hin1 hx0 hy0
  go_enter Try.func6, Try.ntmps6
  go_wp2_with (fail)
  refine (head_any _).mono ?_
  rintro e w1 ⟨rfl, hb⟩
  have hx := Grows.whole hb HX0.out
  have hy := Grows.whole hb HY0.out
  have x0 := hx.cell 0
  have x1 := hx.cell 1
  have x2 := hx.cell 2
  have x3 := hx.cell 3
  have x4 := hx.cell 4
  have x5 := hx.cell 5
  have x6 := hx.cell 6
  simp only [List.getElem?_toArray, List.getElem?_cons_zero, List.getElem?_cons_succ] at x0 x1 x2 x3 x4 x5 x6
  have y0 := hy.cell 0
  have y1 := hy.cell 1
  have y2 := hy.cell 2
  have y3 := hy.cell 3
  have y4 := hy.cell 4
  have y5 := hy.cell 5
  have y6 := hy.cell 6
  simp only [List.getElem?_toArray, List.getElem?_cons_zero, List.getElem?_cons_succ] at y0 y1 y2 y3 y4 y5 y6
  have HX1 := Lib.hid hx
  have HY1 := Lib.hid hy
  have HG1 := Lib.hid (Grows.trans HG0.out hb)
  clear hb hx hy HX0 HY0
  go_wp2_with (fail)
  have hp := put_own (⟨kd0, ks0, id0, no0, size0, ls0, bs0⟩ : Rc) LA0 ln0 lc0 BA0 bn0 bc0 w1 (HI0.out.grow HG1.out)
  dsimp only at hp
  clear x0 x1 x2 x3 x4 x5 x6 y0 y1 y2 y3 y4 y5 y6
  refine (hp).mono ?_
  rintro e w2 ⟨A2, m2, c2, rfl, ho, hb⟩
  have hx := Grows.whole hb HX1.out
  have hy := Grows.whole hb HY1.out
  have x0 := hx.cell 0
  have x1 := hx.cell 1
  have x2 := hx.cell 2
  have x3 := hx.cell 3
  have x4 := hx.cell 4
  have x5 := hx.cell 5
  have x6 := hx.cell 6
  simp only [List.getElem?_toArray, List.getElem?_cons_zero, List.getElem?_cons_succ] at x0 x1 x2 x3 x4 x5 x6
  have y0 := hy.cell 0
  have y1 := hy.cell 1
  have y2 := hy.cell 2
  have y3 := hy.cell 3
  have y4 := hy.cell 4
  have y5 := hy.cell 5
  have y6 := hy.cell 6
  simp only [List.getElem?_toArray, List.getElem?_cons_zero, List.getElem?_cons_succ] at y0 y1 y2 y3 y4 y5 y6
  have HX2 := Lib.hid hx
  have HY2 := Lib.hid hy
  have HG2 := Lib.hid (Grows.trans HG1.out hb)
  have hm2 : m2 = (putR (⟨kd0, ks0, id0, no0, size0, ls0, bs0⟩ : Rc)).length := by have := ho.1; simpa using this.symm
  have HS2 := Lib.hid (Sl.owned ho)
  have HM2 := Lib.hid hm2
  clear ho hm2 hp
  clear hb hx hy HX1 HY1
  go_wp2_with (fail)
  have hp := put_own (⟨kd1, ks1, id1, no1, size1, ls1, bs1⟩ : Rc) LA1 ln1 lc1 BA1 bn1 bc1 w2 (HI1.out.grow HG2.out)
  dsimp only at hp
  clear x0 x1 x2 x3 x4 x5 x6 y0 y1 y2 y3 y4 y5 y6
  refine (hp).mono ?_
  rintro e w3 ⟨A3, m3, c3, rfl, ho, hb⟩
  have hx := Grows.whole hb HX2.out
  have hy := Grows.whole hb HY2.out
  have x0 := hx.cell 0
  have x1 := hx.cell 1
  have x2 := hx.cell 2
  have x3 := hx.cell 3
  have x4 := hx.cell 4
  have x5 := hx.cell 5
  have x6 := hx.cell 6
  simp only [List.getElem?_toArray, List.getElem?_cons_zero, List.getElem?_cons_succ] at x0 x1 x2 x3 x4 x5 x6
  have y0 := hy.cell 0
  have y1 := hy.cell 1
  have y2 := hy.cell 2
  have y3 := hy.cell 3
  have y4 := hy.cell 4
  have y5 := hy.cell 5
  have y6 := hy.cell 6
  simp only [List.getElem?_toArray, List.getElem?_cons_zero, List.getElem?_cons_succ] at y0 y1 y2 y3 y4 y5 y6
  have HX3 := Lib.hid hx
  have HY3 := Lib.hid hy
  have HG3 := Lib.hid (Grows.trans HG2.out hb)
  have hm3 : m3 = (putR (⟨kd1, ks1, id1, no1, size1, ls1, bs1⟩ : Rc)).length := by have := ho.1; simpa using this.symm
  have HS3 := Lib.hid (Sl.owned ho)
  have HT3 := Lib.hid (HS2.out.grow hb)
  have HM3 := Lib.hid hm3
  clear ho hm3 hp HS2
  clear hb hx hy HX2 HY2
  go_wp2_with (fail)
  clear x0 x1 x2 x3 x4 x5 x6 y0 y1 y2 y3 y4 y5 y6
  refine (great_any _ _ _ _ _ _ _ _ _ _ _ _).mono ?_
  rintro e w4 ⟨⟨g, rfl⟩, hb⟩
  have hx := Grows.whole hb HX3.out
  have hy := Grows.whole hb HY3.out
  have x0 := hx.cell 0
  have x1 := hx.cell 1
  have x2 := hx.cell 2
  have x3 := hx.cell 3
  have x4 := hx.cell 4
  have x5 := hx.cell 5
  have x6 := hx.cell 6
  simp only [List.getElem?_toArray, List.getElem?_cons_zero, List.getElem?_cons_succ] at x0 x1 x2 x3 x4 x5 x6
  have y0 := hy.cell 0
  have y1 := hy.cell 1
  have y2 := hy.cell 2
  have y3 := hy.cell 3
  have y4 := hy.cell 4
  have y5 := hy.cell 5
  have y6 := hy.cell 6
  simp only [List.getElem?_toArray, List.getElem?_cons_zero, List.getElem?_cons_succ] at y0 y1 y2 y3 y4 y5 y6
  have HX4 := Lib.hid hx
  have HY4 := Lib.hid hy
  have HG4 := Lib.hid (Grows.trans HG3.out hb)
  have HS4 := Lib.hid (HS3.out.grow hb)
  have HT4 := Lib.hid (HT3.out.grow hb)
  clear HS3 HT3
  clear hb hx hy HX3 HY3
  cases g with
  | true =>
    go_wp2_with (fail)
    go_ret
    exact ⟨rfl, HG4.out⟩
  | false =>
    go_wp2_with (fail)
    clear x0 x1 x2 x3 x4 x5 x6 y0 y1 y2 y3 y4 y5 y6
    refine (great_any _ _ _ _ _ _ _ _ _ _ _ _).mono ?_
    rintro e w5 ⟨⟨g, rfl⟩, hb⟩
    have hx := Grows.whole hb HX4.out
    have hy := Grows.whole hb HY4.out
    have x0 := hx.cell 0
    have x1 := hx.cell 1
    have x2 := hx.cell 2
    have x3 := hx.cell 3
    have x4 := hx.cell 4
    have x5 := hx.cell 5
    have x6 := hx.cell 6
    simp only [List.getElem?_toArray, List.getElem?_cons_zero, List.getElem?_cons_succ] at x0 x1 x2 x3 x4 x5 x6
    have y0 := hy.cell 0
    have y1 := hy.cell 1
    have y2 := hy.cell 2
    have y3 := hy.cell 3
    have y4 := hy.cell 4
    have y5 := hy.cell 5
    have y6 := hy.cell 6
    simp only [List.getElem?_toArray, List.getElem?_cons_zero, List.getElem?_cons_succ] at y0 y1 y2 y3 y4 y5 y6
    have HX5 := Lib.hid hx
    have HY5 := Lib.hid hy
    have HG5 := Lib.hid (Grows.trans HG4.out hb)
    have HS5 := Lib.hid (HS4.out.grow hb)
    have HT5 := Lib.hid (HT4.out.grow hb)
    clear HS4 HT4
    clear hb hx hy HX4 HY4
    cases g with
    | true =>
      go_wp2_with (fail)
      go_ret
      exact ⟨rfl, HG5.out⟩
    | false =>
      by_cases hr0 : RightR (⟨kd0, ks0, id0, no0, size0, ls0, bs0⟩ : Rc)
      · have hb0 := put_body hr0
        rw [← HM2.out] at hb0
        have hn0 : ((m2 : Int) == 0) = false := by simp; omega
        by_cases hr1 : RightR (⟨kd1, ks1, id1, no1, size1, ls1, bs1⟩ : Rc)
        · have hb1 := put_body hr1
          rw [← HM3.out] at hb1
          have hn1 : ((m3 : Int) == 0) = false := by simp; omega
          have hps := put_same hr0 hr1
          have hln : ln0 ≤ 1000000 := by
            have h1 := HI0.out.locs.len
            dsimp only at h1
            unfold RightR PieceOk RootOk InlineOk TombOk Bare LocsOk at hr0
            dsimp only at hr0
            omega
          have hss := fun (w' : World) (hg : Grows w5 w') => run_string (HS5.out.grow hg)
          have hst := fun (w' : World) (hg : Grows w5 w') => run_string (HT5.out.grow hg)
          have hcx : ∀ w', Grows w5 w' → Whole w' w.heap.size 25 #[.int .i64 kd0, .string ⟨ks0.toArray⟩, .int .i64 id0, .int .i64 no0, .int .i64 size0, .slice LA0 ln0 lc0, .slice BA0 bn0 bc0] := fun w' hg => hg.whole HX5.out
          have hcy : ∀ w', Grows w5 w' → Whole w' (w.heap.size + 1) 25 #[.int .i64 kd1, .string ⟨ks1.toArray⟩, .int .i64 id1, .int .i64 no1, .int .i64 size1, .slice LA1 ln1 lc1, .slice BA1 bn1 bc1] := fun w' hg => hg.whole HY5.out
          have hsm := fun (w' : World) (hg : Grows w5 w') => same_any (⟨kd0, ks0, id0, no0, size0, ls0, bs0⟩ : Rc) (⟨kd1, ks1, id1, no1, size1, ls1, bs1⟩ : Rc) LA0 ln0 lc0 BA0 bn0 bc0 LA1 ln1 lc1 BA1 bn1 bc1 w' (HI0.out.grow (Grows.trans HG5.out hg)) (HI1.out.grow (Grows.trans HG5.out hg)) hln
          dsimp only at hsm
          have xc0 : ∀ w', Grows w5 w' → w'.cell? ⟨w.heap.size, 0, none⟩ = some (.int .i64 kd0) := fun w' hg => (hcx w' hg).cell 0
          have xc1 : ∀ w', Grows w5 w' → w'.cell? ⟨w.heap.size, 1, none⟩ = some (.string ⟨ks0.toArray⟩) := fun w' hg => (hcx w' hg).cell 1
          have xc2 : ∀ w', Grows w5 w' → w'.cell? ⟨w.heap.size, 2, none⟩ = some (.int .i64 id0) := fun w' hg => (hcx w' hg).cell 2
          have xc3 : ∀ w', Grows w5 w' → w'.cell? ⟨w.heap.size, 3, none⟩ = some (.int .i64 no0) := fun w' hg => (hcx w' hg).cell 3
          have xc4 : ∀ w', Grows w5 w' → w'.cell? ⟨w.heap.size, 4, none⟩ = some (.int .i64 size0) := fun w' hg => (hcx w' hg).cell 4
          have xc5 : ∀ w', Grows w5 w' → w'.cell? ⟨w.heap.size, 5, none⟩ = some (.slice LA0 ln0 lc0) := fun w' hg => (hcx w' hg).cell 5
          have xc6 : ∀ w', Grows w5 w' → w'.cell? ⟨w.heap.size, 6, none⟩ = some (.slice BA0 bn0 bc0) := fun w' hg => (hcx w' hg).cell 6
          have yc0 : ∀ w', Grows w5 w' → w'.cell? ⟨(w.heap.size + 1), 0, none⟩ = some (.int .i64 kd1) := fun w' hg => (hcy w' hg).cell 0
          have yc1 : ∀ w', Grows w5 w' → w'.cell? ⟨(w.heap.size + 1), 1, none⟩ = some (.string ⟨ks1.toArray⟩) := fun w' hg => (hcy w' hg).cell 1
          have yc2 : ∀ w', Grows w5 w' → w'.cell? ⟨(w.heap.size + 1), 2, none⟩ = some (.int .i64 id1) := fun w' hg => (hcy w' hg).cell 2
          have yc3 : ∀ w', Grows w5 w' → w'.cell? ⟨(w.heap.size + 1), 3, none⟩ = some (.int .i64 no1) := fun w' hg => (hcy w' hg).cell 3
          have yc4 : ∀ w', Grows w5 w' → w'.cell? ⟨(w.heap.size + 1), 4, none⟩ = some (.int .i64 size1) := fun w' hg => (hcy w' hg).cell 4
          have yc5 : ∀ w', Grows w5 w' → w'.cell? ⟨(w.heap.size + 1), 5, none⟩ = some (.slice LA1 ln1 lc1) := fun w' hg => (hcy w' hg).cell 5
          have yc6 : ∀ w', Grows w5 w' → w'.cell? ⟨(w.heap.size + 1), 6, none⟩ = some (.slice BA1 bn1 bc1) := fun w' hg => (hcy w' hg).cell 6
          have hd : decide ((⟨kd0, ks0, id0, no0, size0, ls0, bs0⟩ : Rc) = (⟨kd1, ks1, id1, no1, size1, ls1, bs1⟩ : Rc)) = decide (putR (⟨kd0, ks0, id0, no0, size0, ls0, bs0⟩ : Rc) = putR (⟨kd1, ks1, id1, no1, size1, ls1, bs1⟩ : Rc)) := decide_eq_decide.2 hps.symm
          rw [hd] at hsm
          clear hps hd hcx hcy hn0 hb0 hb1 x0 x1 x2 x3 x4 x5 x6 y0 y1 y2 y3 y4 y5 y6
          have hm2 : ¬ m2 = 0 := by have := put_body hr0; rw [← HM2.out] at this; omega
          have hm3 : ¬ m3 = 0 := by have := put_body hr1; rw [← HM3.out] at this; omega
          generalize putR (⟨kd0, ks0, id0, no0, size0, ls0, bs0⟩ : Rc) = P at *
          generalize putR (⟨kd1, ks1, id1, no1, size1, ls1, bs1⟩ : Rc) = R at *
          have HSM := Lib.hid hsm
          clear hsm hr0 hr1 hln hn1
          have hn0 : ((m2 : Int) == 0) = false := by simp; omega
          have hn1 : ((m3 : Int) == 0) = false := by simp; omega
          by_cases he : P = R
          · subst he
            rw [decide_eq_true rfl] at HSM
            go_wp2_with (fail)
            refine q_region (by kernel_rfl) (by kernel_rfl) ?_
            iterate 9 (refine q_op' (v := ?_) (a' := ?_) (by rfl) ?_ ?_ ?_
                       rotate_left 2
                       · intro w' hC
                         go_simp
                         try with_reducible rfl
                       · simp only [Act.put, List.setIfInBounds_toArray, List.set_cons_zero, List.set_cons_succ]
                         try rfl)
            refine q_call _ _ (.bool true) (by rfl) (fun w' hC => by go_simp; try with_reducible rfl) (fun w' hC => (HSM.out w' hC).mono fun e w'' hq => ⟨hq.1, Grows.trans hC hq.2⟩) ?_
            simp only [Act.put, List.setIfInBounds_toArray, List.set_cons_zero, List.set_cons_succ]
            iterate 3 (refine q_op' (v := ?_) (a' := ?_) (by rfl) ?_ ?_ ?_
                       rotate_left 2
                       · intro w' hC
                         go_simp
                         try with_reducible rfl
                       · simp only [Act.put, List.setIfInBounds_toArray, List.set_cons_zero, List.set_cons_succ]
                         try rfl)
            refine wpQuiet_nil ?_
            intro w6 hC
            have HG6 := Lib.hid (Grows.trans HG5.out hC)
            clear hC
            go_wp2_with (fail)
            go_ret
            exact ⟨rfl, HG6.out⟩
          · have hne : (P == R) = false := by simpa using he
            rw [decide_eq_false he] at HSM
            go_wp2_with (fail)
            refine q_region (by kernel_rfl) (by kernel_rfl) ?_
            iterate 9 (refine q_op' (v := ?_) (a' := ?_) (by rfl) ?_ ?_ ?_
                       rotate_left 2
                       · intro w' hC
                         go_simp
                         try with_reducible rfl
                       · simp only [Act.put, List.setIfInBounds_toArray, List.set_cons_zero, List.set_cons_succ]
                         try rfl)
            refine q_call _ _ (.bool false) (by rfl) (fun w' hC => by go_simp; try with_reducible rfl) (fun w' hC => (HSM.out w' hC).mono fun e w'' hq => ⟨hq.1, Grows.trans hC hq.2⟩) ?_
            simp only [Act.put, List.setIfInBounds_toArray, List.set_cons_zero, List.set_cons_succ]
            iterate 3 (refine q_op' (v := ?_) (a' := ?_) (by rfl) ?_ ?_ ?_
                       rotate_left 2
                       · intro w' hC
                         go_simp
                         try with_reducible rfl
                       · simp only [Act.put, List.setIfInBounds_toArray, List.set_cons_zero, List.set_cons_succ]
                         try rfl)
            refine wpQuiet_nil ?_
            intro w6 hC
            have HG6 := Lib.hid (Grows.trans HG5.out hC)
            clear hC
            go_wp2_with (fail)
            go_ret
            exact ⟨rfl, HG6.out⟩
        · have hm : m3 = 0 := by rw [HM3.out]; exact put_empty.2 hr1
          subst hm
          go_wp2_with (fail)
          go_ret
          exact ⟨rfl, HG5.out⟩
      · have hm : m2 = 0 := by rw [HM2.out]; exact put_empty.2 hr0
        subst hm
        go_wp2_with (fail)
        go_ret
        exact ⟨rfl, HG5.out⟩

set_option maxRecDepth 100000 in
theorem recUnlike_lifted (os : Os) (started : os.Started) (H : Type) (enc : TypeId × Value → H) :
    ReturnsInHanded {} Try.checked os 6 .any (Rows.recUnlikeSpec.pre6 enc Try.prog Try.f6 Rows.recUnlikeRow.domain false) (Rows.recUnlikeSpec.post enc Try.prog Try.f6 false true false false) := by
  refine lift_law (C := Try.checked) H enc own started (by kernel_rfl) Try.func6
    (ChangeSpec.witness6 (enc := enc) (C := Try.checked) false ⟨#[], #[.agg #[.int .i64 0, .string ⟨#[]⟩, .int .i64 0, .int .i64 0, .int .i64 0, .slice none 0 0, .slice none 0 0], .agg #[.int .i64 0, .string ⟨#[]⟩, .int .i64 0, .int .i64 0, .int .i64 0, .slice none 0 0, .slice none 0 0]], []⟩ 16 (by kernel_rfl) (by kernel_rfl) (by kernel_rfl) (by kernel_rfl))
    laidOut (of_readable (by kernel_rfl)) rfl Try.underlying4 rfl (fun ds hd => ?_) (fun W base args ds p hval hA hsz => ?_)
  · match ds, hd with
    | [d1, d2], _ => rfl
  · rw [Try.params6] at hA hval hsz
    obtain ⟨v0, vs0, d0, ds0, p0, q0, hargs, rfl, rfl, h0, r0⟩ := trodAll_cons hA
    obtain ⟨v1, vs1, d1, ds1, p1, q1, rfl, rfl, rfl, h1, r1⟩ := trodAll_cons r0
    obtain ⟨rfl, rfl, rfl⟩ := trodAll_nil r1
    obtain rfl : args = #[v0, v1] := by cases args; simp_all
    obtain ⟨x0, LA0, ln0, lc0, BA0, bn0, bc0, rfl, hx0⟩ := open_rec (hval 0 25 v0 rfl rfl) h0
    obtain ⟨kd0, ks0, id0, no0, size0, ls0, bs0⟩ := x0
    obtain ⟨x1, LA1, ln1, lc1, BA1, bn1, bc1, rfl, hx1⟩ := open_rec (hval 1 25 v1 rfl rfl) h1
    obtain ⟨kd1, ks1, id1, no1, size1, ls1, bs1⟩ := x1
    exact recUnlike_law kd0 ks0 id0 no0 size0 LA0 ln0 lc0 BA0 bn0 bc0 ls0 bs0 hx0 kd1 ks1 id1 no1 size1 LA1 ln1 lc1 BA1 bn1 bc1 ls1 bs1 hx1

theorem recUnlike_over : Rows.recUnlikeRow.holds Try.pinned (OpenSpec.ofChange Rows.recUnlikeSpec) :=
  OpenClaim.holds_of_wide 6 Try.f6 rfl rfl rfl rfl rfl rfl rfl ⟨rfl, rfl, rfl, rfl, rfl⟩ rfl rfl rfl rfl rfl (by kernel_rfl) Try.func6 (by kernel_rfl)
    (of_decide_eq_true (by kernel_rfl)) (by unfold Func.isWrapper; first | (rw [if_pos (by decide +kernel)]; kernel_rfl) | (rw [if_neg (by decide +kernel)]; exact ⟨rfl, rfl⟩))
    (fun os started H enc _ => recUnlike_lifted os started H enc)
theorem recUnlike_holds : Rows.RecUnlikeSaid := recUnlike_over
end Go.Proofs.Ytmfhpfehphbklaa
