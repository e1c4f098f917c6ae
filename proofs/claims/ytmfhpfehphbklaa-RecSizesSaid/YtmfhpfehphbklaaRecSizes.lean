/-
  RecSizes holds of any record: a record's bytes are as many as its kind, key, numbers and bytes need, and begin with its kind; no condition.
-/
import Derived.Test.YtmfhpfehphbklaaRcHead
import Derived.Test.YtmfhpfehphbklaaRcIn
import Derived.Test.YtmfhpfehphbklaaRcBack
import Derived.ProofKit
import Derived.ChangeOld
namespace Go.Proofs.Ytmfhpfehphbklaa
open Go.ChangeShapes Go.WideShapes Go.ChangeAt Go.RowKit
set_option linter.unusedSimpArgs false
set_option linter.unusedVariables false


attribute [local irreducible] Go.wpQuiet
set_option maxRecDepth 100000 in
set_option maxHeartbeats 8000000 in
theorem recSizes_law {w : World} (kd : Int) (ks : List UInt8) (id no size : Int) (LA : Option Addr) (ln lc : Nat) (BA : Option Addr) (bn bc : Nat) (ls : List Lc) (bs : List UInt8) (hin : RcIn w LA ln lc BA bn bc (⟨kd, ks, id, no, size, ls, bs⟩ : Rc)) :
    Calls Try.prog 8 #[.agg #[.int .i64 kd, .string ⟨ks.toArray⟩, .int .i64 id, .int .i64 no, .int .i64 size, .slice LA ln lc, .slice BA bn bc]] w fun e w' => e = .returned (.bool true) ∧ Below w.heap.size w w' := by
  have hl1 := hin.locs.len
  have hl2 := hin.sl.len
  dsimp only at hl1 hl2
  have hss := str_size ks
  have HI := Lib.hid hin
  clear hin
  go_enter Try.func8, Try.ntmps8
  go_wp2_with (fail)
  refine (head_any _).mono ?_
  rintro e w1 ⟨rfl, hb1⟩
  have hz := Grows.whole hb1 (Whole.made w 25 #[.int .i64 kd, .string ⟨ks.toArray⟩, .int .i64 id, .int .i64 no, .int .i64 size, .slice LA ln lc, .slice BA bn bc])
  have c0 := hz.cell 0
  have c1 := hz.cell 1
  have c2 := hz.cell 2
  have c3 := hz.cell 3
  have c4 := hz.cell 4
  have c5 := hz.cell 5
  have c6 := hz.cell 6
  simp only [List.getElem?_toArray, List.getElem?_cons_zero, List.getElem?_cons_succ] at c0 c1 c2 c3 c4 c5 c6
  have HZ := Lib.hid hz
  have HG1 := Lib.hid (Grows.trans (grows_alloc w _) hb1)
  clear hb1 hz
  go_wp2_with (fail)
  have hp := put_own (⟨kd, ks, id, no, size, ls, bs⟩ : Rc) LA ln lc BA bn bc w1 (HI.out.grow HG1.out)
  dsimp only at hp
  refine hp.mono ?_
  clear hp
  rintro e w2 ⟨A2, m2, c2', rfl, ho2, hb2⟩
  have hm2 : m2 = (putR (⟨kd, ks, id, no, size, ls, bs⟩ : Rc)).length := by have := ho2.1; simpa using this.symm
  have hz := Grows.whole hb2 HZ.out
  have d0 := hz.cell 0
  have d1 := hz.cell 1
  have d2 := hz.cell 2
  have d3 := hz.cell 3
  have d4 := hz.cell 4
  have d5 := hz.cell 5
  have d6 := hz.cell 6
  simp only [List.getElem?_toArray, List.getElem?_cons_zero, List.getElem?_cons_succ] at d0 d1 d2 d3 d4 d5 d6
  have HZ2 := Lib.hid hz
  have HG2 := Lib.hid (Grows.trans HG1.out hb2)
  have HS2 := Lib.hid (Sl.owned ho2)
  have HM2 := Lib.hid hm2
  clear hb2 hz c0 c1 c2 c3 c4 c5 c6 ho2 hm2 HZ
  go_wp2_with (fail)
  refine (great_any _ _ _ _ _ _ _ _ _ _ _ _).mono ?_
  rintro e w3 ⟨⟨g, rfl⟩, hb3⟩
  have hz := Grows.whole hb3 HZ2.out
  have c0 := hz.cell 0
  have c1 := hz.cell 1
  have c2 := hz.cell 2
  have c3 := hz.cell 3
  have c4 := hz.cell 4
  have c5 := hz.cell 5
  have c6 := hz.cell 6
  simp only [List.getElem?_toArray, List.getElem?_cons_zero, List.getElem?_cons_succ] at c0 c1 c2 c3 c4 c5 c6
  have HZ3 := Lib.hid hz
  have HG3 := Lib.hid (Grows.trans HG2.out hb3)
  have HS3 := Lib.hid (HS2.out.grow hb3)
  clear hb3 hz d0 d1 d2 d3 d4 d5 d6 HS2 HG2 HZ2
  cases g with
  | true =>
    go_wp2_with (fail)
    go_ret
    exact ⟨rfl, HG3.out⟩
  | false =>
    by_cases hr : RightR (⟨kd, ks, id, no, size, ls, bs⟩ : Rc)
    · have hlen := put_len hr
      have hbd := put_body hr
      have hkind := right_kind hr
      obtain ⟨body, hbody⟩ := put_head hr
      dsimp only at hlen hkind hbody
      rw [← HM2.out] at hlen hbd
      have hne : ((m2 : Int) == 0) = false := by simp; omega
      have hbk := byte_kind hr
      dsimp only at hbk
      have hsz := str_size ks
      have hks : ks.length ≤ 8192 ∧ bn ≤ 8192 ∧ ln ≤ 8192 := by
        have := hr
        unfold RightR PieceOk RootOk InlineOk TombOk Bare KeyOk LocsOk at this
        dsimp only at this
        omega
      obtain ⟨hk1, hk2, hk3⟩ := hks
      clear hr
      rw [hbody] at HS3
      obtain ⟨ad, rfl, _, hcell⟩ := HS3.out.bytes.spot (k := 0) (by omega)
      simp only [List.getD_cons_zero, Addr.add_zero', hbk] at hcell
      have hup : ∀ w', Grows w3 w' → w'.cell? ad = some (.int .u8 kd) := fun w' hg => (hg.cell (World.block_lt_of_cell? w3 _ hcell)).trans hcell
      have hk0 : ∀ w', Grows w3 w' → w'.cell? ⟨w.heap.size, 0, none⟩ = some (.int .i64 kd) := fun w' hg => (hg.whole HZ3.out).cell 0
      have hm0 : (0 : Int) < (m2 : Int) := by omega
      have hmn : 0 < m2 := by omega
      have e1 : IntKind.i64.wrap (9 + (bn : Int)) = 9 + (bn : Int) := IntWalk.i64_in _ ⟨by omega, by omega⟩
      have e2 : IntKind.i64.wrap (13 + (ks.length : Int)) = 13 + (ks.length : Int) := IntWalk.i64_in _ ⟨by omega, by omega⟩
      have e3 : IntKind.i64.wrap (10 * (ln : Int)) = 10 * (ln : Int) := IntWalk.i64_in _ ⟨by omega, by omega⟩
      have e4 : IntKind.i64.wrap (13 + (ks.length : Int) + 10 * (ln : Int)) = 13 + (ks.length : Int) + 10 * (ln : Int) := IntWalk.i64_in _ ⟨by omega, by omega⟩
      have e5 : IntKind.i64.wrap (2 + (ks.length : Int)) = 2 + (ks.length : Int) := IntWalk.i64_in _ ⟨by omega, by omega⟩
      have e6 : IntKind.i64.wrap (2 + (ks.length : Int) + (bn : Int)) = 2 + (ks.length : Int) + (bn : Int) := IntWalk.i64_in _ ⟨by omega, by omega⟩
      have e7 : IntKind.i64.wrap (1 + (ks.length : Int)) = 1 + (ks.length : Int) := IntWalk.i64_in _ ⟨by omega, by omega⟩
      have f1 := IntWalk.i64_left (9 + (bn : Int)) ▸ e1
      have f2 := IntWalk.i64_left (13 + (ks.length : Int)) ▸ e2
      have f3 := IntWalk.i64_left (10 * (ln : Int)) ▸ e3
      have f4 := IntWalk.i64_left (13 + (ks.length : Int) + 10 * (ln : Int)) ▸ e4
      have f5 := IntWalk.i64_left (2 + (ks.length : Int)) ▸ e5
      have f6 := IntWalk.i64_left (2 + (ks.length : Int) + (bn : Int)) ▸ e6
      have f7 := IntWalk.i64_left (1 + (ks.length : Int)) ▸ e7
      rcases hkind with rfl | rfl | rfl | rfl
      · have hme : (m2 : Int) = 9 + (bn : Int) := by
          rw [hlen]
          first | (simp; omega) | simp
        have HME := Lib.hid hme
        have heq : ((m2 : Int) == 9 + (bn : Int)) = true := by rw [beq_iff_eq]; exact hme
        clear hme hlen hl1 hl2
        go_wp2_with (fail)
        refine q_region (by kernel_rfl) (by kernel_rfl) ?_
        iterate 16 (refine q_op' (v := ?_) (a' := ?_) (by rfl) ?_ ?_ ?_
                    rotate_left 2
                    · intro w' hC
                      go_simp
                      try with_reducible rfl
                    · simp only [Act.put, List.setIfInBounds_toArray, List.set_cons_zero, List.set_cons_succ]
                      try rfl)
        iterate 1 (refine q_op' (v := ?_) (a' := ?_) (by rfl) ?_ ?_ ?_
                   rotate_left 2
                   · intro w' hC
                     go_simp
                     try with_reducible rfl
                   · simp only [Act.put, List.setIfInBounds_toArray, List.set_cons_zero, List.set_cons_succ]
                     try rfl)
        refine wpQuiet_nil ?_
        intro w5 hC
        have HG5 := Lib.hid (Grows.trans HG3.out hC)
        clear hC
        go_wp2_with (fail)
        go_ret
        exact ⟨rfl, HG5.out⟩
      · have hme : (m2 : Int) = 13 + (ks.length : Int) + 10 * (ln : Int) := by
          rw [hlen]
          first | (simp; omega) | simp
        have HME := Lib.hid hme
        have heq : ((m2 : Int) == 13 + (ks.length : Int) + 10 * (ln : Int)) = true := by rw [beq_iff_eq]; exact hme
        clear hme hlen hl1 hl2
        go_wp2_with (fail)
        refine q_region (by kernel_rfl) (by kernel_rfl) ?_
        iterate 16 (refine q_op' (v := ?_) (a' := ?_) (by rfl) ?_ ?_ ?_
                    rotate_left 2
                    · intro w' hC
                      go_simp
                      try with_reducible rfl
                    · simp only [Act.put, List.setIfInBounds_toArray, List.set_cons_zero, List.set_cons_succ]
                      try rfl)
        iterate 1 (refine q_op' (v := ?_) (a' := ?_) (by rfl) ?_ ?_ ?_
                   rotate_left 2
                   · intro w' hC
                     go_simp
                     try with_reducible rfl
                   · simp only [Act.put, List.setIfInBounds_toArray, List.set_cons_zero, List.set_cons_succ]
                     try rfl)
        refine wpQuiet_nil ?_
        intro w5 hC
        have HG5 := Lib.hid (Grows.trans HG3.out hC)
        clear hC
        go_wp2_with (fail)
        go_ret
        exact ⟨rfl, HG5.out⟩
      · have hme : (m2 : Int) = 2 + (ks.length : Int) + (bn : Int) := by
          rw [hlen]
          first | (simp; omega) | simp
        have HME := Lib.hid hme
        have heq : ((m2 : Int) == 2 + (ks.length : Int) + (bn : Int)) = true := by rw [beq_iff_eq]; exact hme
        clear hme hlen hl1 hl2
        go_wp2_with (fail)
        refine q_region (by kernel_rfl) (by kernel_rfl) ?_
        iterate 16 (refine q_op' (v := ?_) (a' := ?_) (by rfl) ?_ ?_ ?_
                    rotate_left 2
                    · intro w' hC
                      go_simp
                      try with_reducible rfl
                    · simp only [Act.put, List.setIfInBounds_toArray, List.set_cons_zero, List.set_cons_succ]
                      try rfl)
        iterate 1 (refine q_op' (v := ?_) (a' := ?_) (by rfl) ?_ ?_ ?_
                   rotate_left 2
                   · intro w' hC
                     go_simp
                     try with_reducible rfl
                   · simp only [Act.put, List.setIfInBounds_toArray, List.set_cons_zero, List.set_cons_succ]
                     try rfl)
        refine wpQuiet_nil ?_
        intro w5 hC
        have HG5 := Lib.hid (Grows.trans HG3.out hC)
        clear hC
        go_wp2_with (fail)
        go_ret
        exact ⟨rfl, HG5.out⟩
      · have hme : (m2 : Int) = 1 + (ks.length : Int) := by
          rw [hlen]
          first | (simp; omega) | simp
        have HME := Lib.hid hme
        have heq : ((m2 : Int) == 1 + (ks.length : Int)) = true := by rw [beq_iff_eq]; exact hme
        clear hme hlen hl1 hl2
        go_wp2_with (fail)
        refine q_region (by kernel_rfl) (by kernel_rfl) ?_
        iterate 16 (refine q_op' (v := ?_) (a' := ?_) (by rfl) ?_ ?_ ?_
                    rotate_left 2
                    · intro w' hC
                      go_simp
                      try with_reducible rfl
                    · simp only [Act.put, List.setIfInBounds_toArray, List.set_cons_zero, List.set_cons_succ]
                      try rfl)
        iterate 1 (refine q_op' (v := ?_) (a' := ?_) (by rfl) ?_ ?_ ?_
                   rotate_left 2
                   · intro w' hC
                     go_simp
                     try with_reducible rfl
                   · simp only [Act.put, List.setIfInBounds_toArray, List.set_cons_zero, List.set_cons_succ]
                     try rfl)
        refine wpQuiet_nil ?_
        intro w5 hC
        have HG5 := Lib.hid (Grows.trans HG3.out hC)
        clear hC
        go_wp2_with (fail)
        go_ret
        exact ⟨rfl, HG5.out⟩
    · have hm : m2 = 0 := by rw [HM2.out]; exact put_empty.2 hr
      subst hm
      go_wp2_with (fail)
      go_ret
      exact ⟨rfl, HG3.out⟩

set_option maxRecDepth 100000 in
theorem recSizes_lifted (os : Os) (started : os.Started) (H : Type) (enc : TypeId × Value → H) :
    ReturnsInHanded {} Try.checked os 8 .any (Rows.recSizesSpec.pre6 enc Try.prog Try.f8 Rows.recSizesRow.domain false) (Rows.recSizesSpec.post enc Try.prog Try.f8 false true false false) := by
  refine lift_law (C := Try.checked) H enc own started (by kernel_rfl) Try.func8
    (ChangeSpec.witness6 (enc := enc) (C := Try.checked) false ⟨#[], #[.agg #[.int .i64 0, .string ⟨#[]⟩, .int .i64 0, .int .i64 0, .int .i64 0, .slice none 0 0, .slice none 0 0]], []⟩ 16 (by kernel_rfl) (by kernel_rfl) (by kernel_rfl) (by kernel_rfl))
    laidOut (of_readable (by kernel_rfl)) rfl Try.underlying4 rfl (fun ds hd => ?_) (fun W base args ds p hval hA hsz => ?_)
  · match ds, hd with
    | [d1], _ => rfl
  · rw [Try.params8] at hA hval hsz
    obtain ⟨v0, vs0, d0, ds0, p0, q0, hargs, rfl, rfl, h0, r0⟩ := trodAll_cons hA
    obtain ⟨rfl, rfl, rfl⟩ := trodAll_nil r0
    obtain rfl : args = #[v0] := by cases args; simp_all
    obtain ⟨x0, LA0, ln0, lc0, BA0, bn0, bc0, rfl, hx0⟩ := open_rec (hval 0 25 v0 rfl rfl) h0
    obtain ⟨kd0, ks0, id0, no0, size0, ls0, bs0⟩ := x0
    exact recSizes_law kd0 ks0 id0 no0 size0 LA0 ln0 lc0 BA0 bn0 bc0 ls0 bs0 hx0

theorem recSizes_over : Rows.recSizesRow.holds Try.pinned (OpenSpec.ofChange Rows.recSizesSpec) :=
  OpenClaim.holds_of_wide 8 Try.f8 rfl rfl rfl rfl rfl rfl rfl ⟨rfl, rfl, rfl, rfl, rfl⟩ rfl rfl rfl rfl rfl (by kernel_rfl) Try.func8 (by kernel_rfl)
    (of_decide_eq_true (by kernel_rfl)) (by unfold Func.isWrapper; first | (rw [if_pos (by decide +kernel)]; kernel_rfl) | (rw [if_neg (by decide +kernel)]; exact ⟨rfl, rfl⟩))
    (fun os started H enc _ => recSizes_lifted os started H enc)
theorem recSizes_holds : Rows.RecSizesSaid := recSizes_over
end Go.Proofs.Ytmfhpfehphbklaa
