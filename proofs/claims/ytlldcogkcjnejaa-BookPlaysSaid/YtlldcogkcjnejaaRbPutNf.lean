/-
  The document's answer to book: Put, a segment that is new.
-/
import Derived.Test.YtlldcogkcjnejaaRbPut
namespace Go.Proofs.Ytlldcogkcjnejaa
open Go.RowKit Go.Shelf Go.Maps Go.Sort
set_option linter.unusedVariables false
set_option linter.unusedSimpArgs false

set_option maxRecDepth 100000 in
set_option maxHeartbeats 8000000 in
theorem rput_new_f {q c : Nat} {A : Option Addr} {l : List Us} {w : World} (h : RbAt w q A c l) {M : Nat} (hok : UOk M 999999 l) {k n : Int} (hb : putB k n l = true) (hh : hasU k l = false) :
    Calls Try.prog 17 #[.pointer (some ⟨q, 0, none⟩), .int .i64 k, .int .i64 n, .bool false] w fun e w' => e = .returned (.bool true) ∧ RbTo w q A (uput (newU k n false l) l) w' := by
  have hn := hok.few
  have HOF := Lib.hid (rof_use h (by omega) hok.rise k)
  obtain ⟨u1, u2, u3⟩ := hok.use k
  have HPB := Lib.hid (of_decide_eq_true hb)
  obtain ⟨⟨s0, a0, v0⟩, hu⟩ : ∃ u, useOf k l = u := ⟨_, rfl⟩
  have HU := Lib.hid hu
  have hpb := HPB.out
  rw [hu] at HOF u1 u2 u3 hpb
  rw [hh] at HOF
  dsimp only at u1 u2 u3 hpb
  obtain ⟨a1, ha1⟩ : ∃ d, a0 + n = d := ⟨_, rfl⟩
  obtain ⟨v1, hv1⟩ : ∃ d, v0 + n = d := ⟨_, rfl⟩
  have HWA := Lib.hid (show IntKind.i64.wrap (a0 + n) = a1 ∧ wrap64 (a0 + n) = a1 from by rw [← ha1]; exact wrapI (by omega) (by omega))
  have HWV := Lib.hid (show IntKind.i64.wrap (v0 + n) = v1 ∧ wrap64 (v0 + n) = v1 from by rw [← hv1]; exact wrapI (by omega) (by omega))
  have hnew : newU k n false l = ⟨k, a1, v0⟩ := by
    unfold newU
    rw [hu, ← ha1]
    simp
  rw [hnew]
  have b1 : ¬ k < 0 := by omega
  have b2 : ¬ 99999999 < k := by omega
  have b3 : ¬ n < 0 := by omega
  have b4 : ¬ 1099511627776 < n := by omega
  have b5 : ¬ 1125899906842624 < a1 := by omega
  have HBB := Lib.hid (And.intro b1 (And.intro b2 (And.intro b3 (And.intro b4 b5))))
  have HX := Lib.hid (show RbAt w q A c l ∧ UOk M 999999 l ∧ l.length ≤ 999999 ∧ hasU k l = false from ⟨h, hok, hn, hh⟩)
  clear h hok hn hb hh hu u1 u2 u3 hpb ha1 hv1 hnew b1 b2 b3 b4 b5
  unfold usV at HOF
  dsimp only at HOF
  go_enter Try.func17, Try.ntmps17
  go_wp2_with (fail)
  refine HOF.out.mono ?_
  rintro e w1 ⟨rfl, hg1⟩
  obtain ⟨W1, hW1⟩ : ∃ W1, w1.alloc (.cells #[.int .i64 s0, .int .i64 a0, .int .i64 v0] 34) = W1 := ⟨_, rfl⟩
  have hg2 : Grows w1 W1 := hW1 ▸ grows_alloc _ _
  have hm1 : Whole W1 w1.heap.size 34 #[.int .i64 s0, .int .i64 a0, .int .i64 v0] := by rw [← hW1]; exact Whole.made _ _ _
  have c1 := hm1.cell 1
  simp only [List.getElem?_toArray, List.getElem?_cons_zero, List.getElem?_cons_succ] at c1
  have H1 := Lib.hid (Grows.trans hg1 hg2)
  obtain ⟨b1, b2, b3, b4, b5⟩ := HBB.out
  obtain ⟨y1, y2⟩ := HWA.out
  clear hg1 hg2 hm1 HOF
  have hf : ufind k l = none := by
    have := HX.out.2.2.2
    unfold hasU at this
    exact Option.isNone_iff_eq_none.1 (by rw [← Option.not_isSome, this]; rfl)
  have HZ := Lib.hid (show s0 = 0 ∧ a0 = 0 ∧ v0 = 0 from by
    have h1 := HU.out
    unfold useOf at h1
    rw [hf] at h1
    injection h1 with h1 h2 h3
    exact ⟨h1.symm, h2.symm, h3.symm⟩)
  have HNO := Lib.hid (ufind_none.1 hf)
  have HAN := Lib.hid (at_none (HX.out.1.grow H1.out) (by have := HX.out.2.2.1; omega) hf)
  clear hf
  obtain ⟨m, hl⟩ : ∃ m, l.length = m := ⟨_, rfl⟩
  have hbw := HX.out.1.box
  have hrow := HX.out.1.row
  have hmm := HX.out.2.2.1
  rw [hl] at hbw hrow hmm
  have HBW := Lib.hid hbw
  have HROW := Lib.hid hrow
  have HML := Lib.hid (And.intro hl hmm)
  clear hl hbw hrow
  go_wp2_with (first | rw [hW1] | fail)
  clear c1 b1 b2 b3 b4 b5 y1 y2 hW1
  refine HAN.out.mono ?_
  rintro e w2 ⟨rfl, hg2⟩
  have HG2 := Lib.hid (Grows.trans H1.out hg2)
  clear hg2
  go_wp2_with (fail)
  go_loopw [11] (fun vi wr => ∃ (i : Nat), i ≤ m ∧ vi = .int .i64 (i : Int) ∧ Hid (∀ y ∈ l.take i, y.seg < k) ∧ Hid (Grows w wr)) (fun vi _ => m - (intOf vi).toNat)
  case atStart => exact ⟨0, Nat.zero_le _, rfl, Lib.hid (fun y hy => by simp at hy), HG2⟩
  case round =>
    obtain ⟨i, hi, rfl, HPRE, HG⟩ := hrel
    have hbr : Boxed wr q 54 (.slice A m c) := (HG.out.block _ HBW.out.lt).trans HBW.out
    have d0 := hbr.cell
    by_cases hlt : i < m
    · obtain ⟨ad, y, hA, hy, hbl, hcy⟩ := Uss.at (HROW.out.grow HG.out) hlt
      subst hA
      obtain ⟨c0, c1, c2⟩ := hcy wr (Grows.refl _)
      have k0 : (0 : Int) ≤ (i : Int) := by omega
      have k1 : (i : Int) < (m : Int) := by omega
      by_cases hlk : y.seg < k
      · have HPR2 := Lib.hid (show ∀ z ∈ l.take (i + 1), z.seg < k from fun z hz => by
          rw [List.take_add_one, hy] at hz
          rcases List.mem_append.1 hz with hz | hz
          · exact HPRE.out z hz
          · simp at hz
            rw [hz]; exact hlk)
        clear hbl hcy hbr hy
        go_wp2_with (fail)
        go_roundw
        case rel => exact ⟨i + 1, hlt, by go_num, HPR2, HG⟩
        case measure => simp [intOf]; omega
      · have hpost : ∀ z ∈ l.drop i, k < z.seg := drop_above HX.out.2.1.rise hy (by have := HNO.out y (List.mem_of_getElem? hy); omega)
        clear hbl hcy hbr hy
        obtain ⟨hs1, A2, m2, c3, hs2, hm2, hdk⟩ := slice_cut (HROW.out.grow HG.out) hi (by have := HML.out.2; omega)
        have HS1 := Lib.hid hs1
        have HS2 := Lib.hid hs2
        have HBX := Lib.hid (show ∀ w', Keep3 wr.heap.size wr w' → w'.cell? { block := q, off := 0 } = some (.slice (some ad) m c) from fun w' hC => (show Boxed w' q 54 (.slice (some ad) m c) from (hC.sp.same q (Nat.lt_of_lt_of_le HBW.out.lt HG.out.size) (by have := HBW.out.lt; have := HG.out.size; omega)).trans ((HG.out.block _ HBW.out.lt).trans HBW.out)).cell)
        have HUK := Lib.hid (show ∀ w', Keep3 wr.heap.size wr w' → Uss w' (some ad) m c l from fun w' hC => uss_keep (HROW.out.grow HG.out) hC)
        have HTK := Lib.hid (show ∀ w', Keep3 wr.heap.size wr w' → 0 < i → Lies w' (some ad) (l.take i) from fun w' hC hp => by
          obtain ⟨aX, _, e, _⟩ := Uss.at (HUK.out w' hC) (i := 0) (by omega)
          refine ⟨aX, e, ?_⟩
          have h1 := HUK.out w' hC
          rw [e] at h1
          exact cells_take h1 i)
        have HDK := Lib.hid (show ∀ w', Keep3 wr.heap.size wr w' → 0 < m2 → Lies w' A2 (l.drop i) from fun w' hC hp => by
          obtain ⟨aX, e, hh⟩ := hdk hp
          exact ⟨aX, e, hh w' (HUK.out w' hC)⟩)
        have HLN := Lib.hid (show ((l.take i).length = i ∧ 0 + i ≤ 1000000) ∧ (([(⟨k, 0, 0⟩ : Us)]).length = 1 ∧ i + 1 ≤ 1000000) ∧ ((l.drop i).length = m2 ∧ i + 1 + m2 ≤ 1000000) ∧ (l.take i ++ [(⟨k, 0, 0⟩ : Us)] ++ l.drop i).length = i + 1 + m2 from by
          have h1 := HML.out
          refine ⟨⟨by rw [List.length_take]; omega, by omega⟩, ⟨rfl, by omega⟩, ⟨by rw [List.length_drop]; omega, by omega⟩, ?_⟩
          rw [List.length_append, List.length_append, List.length_take, List.length_drop, List.length_singleton]
          omega)
        have HINS := Lib.hid (ins_at HX.out.2.1.rise HPRE.out hpost (by have := HML.out.1; omega))
        clear hs1 hs2 hm2 hdk hpost
        go_wp2_with (fail)
        refine wp_region_jobs (G := Grows) (E := Keep3 (wr.heap.size)) 20 [vJob (wr.heap.size) (.pointer (some ⟨q, 0, none⟩)), cJob (wr.heap.size) Nat 0 (fun g => .slice (some ⟨g, 0, none⟩) 0 0) (fun g w' => Chain (wr.heap.size) [] 0 (some ⟨g, 0, none⟩) 0 w') (fun _ _ _ h hg => h.grow hg), vJob (wr.heap.size) (.pointer (some ⟨q, 0, none⟩)), vJob (wr.heap.size) (.pointer (some ⟨q, 0, none⟩)), vJob (wr.heap.size) (.pointer (some ⟨q, 0, none⟩)), vJob (wr.heap.size) (.slice (some ad) m c), vJob (wr.heap.size) (.int .i64 (i : Int)), vJob (wr.heap.size) (.slice (some ad) i c), cJob (wr.heap.size) (Option Addr × Nat) (none, 0) (fun p => .slice p.1 (i) p.2) (fun p w' => Chain (wr.heap.size) (l.take i) (i) p.1 p.2 w') (fun _ _ _ h hg => h.grow hg), vJob (wr.heap.size) (.int .i64 k), vJob (wr.heap.size) (.agg #[.int .i64 k, .int .i64 0, .int .i64 0]), mJob (wr.heap.size) (34) (#[.int .i64 k, .int .i64 0, .int .i64 0]) rfl, cJob (wr.heap.size) (Option Addr × Nat) (none, 0) (fun p => .slice p.1 (i + 1) p.2) (fun p w' => Chain (wr.heap.size) (l.take i ++ [(⟨k, 0, 0⟩ : Us)]) (i + 1) p.1 p.2 w') (fun _ _ _ h hg => h.grow hg), vJob (wr.heap.size) (.pointer (some ⟨q, 0, none⟩)), vJob (wr.heap.size) (.pointer (some ⟨q, 0, none⟩)), vJob (wr.heap.size) (.pointer (some ⟨q, 0, none⟩)), vJob (wr.heap.size) (.slice (some ad) m c), vJob (wr.heap.size) (.int .i64 (i : Int)), vJob (wr.heap.size) (.slice A2 m2 c3), cJob (wr.heap.size) (Option Addr × Nat) (none, 0) (fun p => .slice p.1 (i + 1 + m2) p.2) (fun p w' => Chain (wr.heap.size) (l.take i ++ [(⟨k, 0, 0⟩ : Us)] ++ l.drop i) (i + 1 + m2) p.1 p.2 w') (fun _ _ _ h hg => h.grow hg)] [(false, false), (true, true), (false, false), (false, false), (false, false), (false, false), (false, false), (false, false), (true, true), (false, false), (false, false), (false, false), (true, true), (false, false), (false, false), (false, false), (false, false), (false, false), (false, false), (true, true)] (fun _ => True) rfl mixed (by kernel_rfl) (fun _ _ => Keep3.ofGrows) (fun _ _ _ => Keep3.trans) (keep3_drew _ _) trivial (fun _ _ h _ => h) ?_
        simp only [List.take_succ_cons, List.take_zero, List.drop_succ_cons, List.drop_zero]
        refine ke_val (.pointer (some ⟨q, 0, none⟩)) (by rfl) ?_ ?_
        · intro w' hC; clear hC; go_simp
        simp only [Act.put, List.setIfInBounds_toArray, List.set_cons_zero, List.set_cons_succ]
        refine ke_cls (by rfl) (fun w' hC hcls hks => ⟨w'.heap.size, w'.alloc (.cells #[] 34), by go_simp, Keep3.ofGrows (grows_alloc _ _), ⟨World.ownsRow_lit w' #[] 0 hC.sp.size (Nat.zero_le _) rfl, fun _ => rfl, by simp⟩⟩) ?_
        intro g1
        dsimp only
        simp only [Act.put, List.setIfInBounds_toArray, List.set_cons_zero, List.set_cons_succ]
        refine ke_val (.pointer (some ⟨q, 0, none⟩)) (by rfl) ?_ ?_
        · intro w' hC; clear hC; go_simp
        simp only [Act.put, List.setIfInBounds_toArray, List.set_cons_zero, List.set_cons_succ]
        refine ke_val (.pointer (some ⟨q, 0, none⟩)) (by rfl) ?_ ?_
        · intro w' hC; clear hC; go_simp
        simp only [Act.put, List.setIfInBounds_toArray, List.set_cons_zero, List.set_cons_succ]
        refine ke_val (.pointer (some ⟨q, 0, none⟩)) (by rfl) ?_ ?_
        · intro w' hC; clear hC; go_simp
        simp only [Act.put, List.setIfInBounds_toArray, List.set_cons_zero, List.set_cons_succ]
        refine ke_val (.slice (some ad) m c) (by rfl) ?_ ?_
        · intro w' hC; have z := HBX.out w' hC; clear hC; go_simp
        simp only [Act.put, List.setIfInBounds_toArray, List.set_cons_zero, List.set_cons_succ]
        refine ke_val (.int .i64 (i : Int)) (by rfl) ?_ ?_
        · intro w' hC; clear hC; go_simp
        simp only [Act.put, List.setIfInBounds_toArray, List.set_cons_zero, List.set_cons_succ]
        refine ke_val (.slice (some ad) i c) (by rfl) ?_ ?_
        · intro w' hC; have z := HS1.out w'; clear hC; go_simp
        simp only [Act.put, List.setIfInBounds_toArray, List.set_cons_zero, List.set_cons_succ]
        refine ke_cls (by rfl) (fun w' hC hcls hks => ?_) ?_
        · obtain ⟨A', c', w2, hr, hc2, hk2⟩ := chain_append (ty := 40) hcls (fun hp => HTK.out w' hC hp) HLN.out.1 hC.sp.size (k := i) (Nat.zero_add i) (l3 := l.take i) rfl
          exact ⟨(A', c'), w2, exec_app rfl rfl rfl hr, hk2, hc2⟩
        rintro ⟨B2, d2⟩
        dsimp only
        simp only [Act.put, List.setIfInBounds_toArray, List.set_cons_zero, List.set_cons_succ]
        refine ke_val (.int .i64 k) (by rfl) ?_ ?_
        · intro w' hC; clear hC; go_simp
        simp only [Act.put, List.setIfInBounds_toArray, List.set_cons_zero, List.set_cons_succ]
        refine ke_val (.agg #[.int .i64 k, .int .i64 0, .int .i64 0]) (by rfl) ?_ ?_
        · intro w' hC; clear hC; go_simp
        simp only [Act.put, List.setIfInBounds_toArray, List.set_cons_zero, List.set_cons_succ]
        refine ke_made (34) (#[.int .i64 k, .int .i64 0, .int .i64 0]) rfl (by rfl) ?_ ?_
        · intro w' hC; clear hC; go_simp
        intro g2
        simp only [Act.put, List.setIfInBounds_toArray, List.set_cons_zero, List.set_cons_succ]
        refine ke_cls (by rfl) (fun w' hC hcls hks => ?_) ?_
        · obtain ⟨A', c', w2, hr, hc2, hk2⟩ := chain_append (ty := 40) hcls (l2 := [(⟨k, 0, 0⟩ : Us)]) (fun _ => ⟨⟨g2, 0, none⟩, rfl, fun t u hu => cell_lit (Known.get hks 0 rfl rfl) t u hu⟩) HLN.out.2.1 hC.sp.size (k := i + 1) rfl (l3 := l.take i ++ [(⟨k, 0, 0⟩ : Us)]) rfl
          exact ⟨(A', c'), w2, exec_app rfl rfl rfl hr, hk2, hc2⟩
        rintro ⟨B3, d3⟩
        dsimp only
        simp only [Act.put, List.setIfInBounds_toArray, List.set_cons_zero, List.set_cons_succ]
        refine ke_val (.pointer (some ⟨q, 0, none⟩)) (by rfl) ?_ ?_
        · intro w' hC; clear hC; go_simp
        simp only [Act.put, List.setIfInBounds_toArray, List.set_cons_zero, List.set_cons_succ]
        refine ke_val (.pointer (some ⟨q, 0, none⟩)) (by rfl) ?_ ?_
        · intro w' hC; clear hC; go_simp
        simp only [Act.put, List.setIfInBounds_toArray, List.set_cons_zero, List.set_cons_succ]
        refine ke_val (.pointer (some ⟨q, 0, none⟩)) (by rfl) ?_ ?_
        · intro w' hC; clear hC; go_simp
        simp only [Act.put, List.setIfInBounds_toArray, List.set_cons_zero, List.set_cons_succ]
        refine ke_val (.slice (some ad) m c) (by rfl) ?_ ?_
        · intro w' hC; have z := HBX.out w' hC; clear hC; go_simp
        simp only [Act.put, List.setIfInBounds_toArray, List.set_cons_zero, List.set_cons_succ]
        refine ke_val (.int .i64 (i : Int)) (by rfl) ?_ ?_
        · intro w' hC; clear hC; go_simp
        simp only [Act.put, List.setIfInBounds_toArray, List.set_cons_zero, List.set_cons_succ]
        refine ke_val (.slice A2 m2 c3) (by rfl) ?_ ?_
        · intro w' hC; have z := HS2.out w'; clear hC; go_simp
        simp only [Act.put, List.setIfInBounds_toArray, List.set_cons_zero, List.set_cons_succ]
        refine ke_cls (by rfl) (fun w' hC hcls hks => ?_) ?_
        · obtain ⟨A', c', w2, hr, hc2, hk2⟩ := chain_append (ty := 40) hcls (fun hp => HDK.out w' hC hp) HLN.out.2.2.1 hC.sp.size (k := i + 1 + m2) rfl (l3 := l.take i ++ [(⟨k, 0, 0⟩ : Us)] ++ l.drop i) rfl
          exact ⟨(A', c'), w2, exec_app rfl rfl rfl hr, hk2, hc2⟩
        rintro ⟨B5, d5⟩
        dsimp only
        simp only [Act.put, List.setIfInBounds_toArray, List.set_cons_zero, List.set_cons_succ]
        refine ke_end ?_
        intro w7 hC hks hcls
        have HCw7 := Lib.hid hC
        have HLw7 := Lib.hid hcls
        clear hC hks hcls
        have hbx : Boxed w7 q 54 (.slice (some ad) m c) := (HCw7.out.sp.same q (Nat.lt_of_lt_of_le HBW.out.lt HG.out.size) (by have := HBW.out.lt; have := HG.out.size; omega)).trans ((HG.out.block _ HBW.out.lt).trans HBW.out)
        have d0 := hbx.cell
        have fz : w7.frozen? ⟨q, 0, none⟩ = false := Whole.free (show Whole w7 q 54 #[_] from hbx) 0
        have H7 := Lib.hid hbx
        clear hbx
        obtain ⟨W8, hW8⟩ : ∃ W, w7.setCell ⟨q, 0, none⟩ (.slice B5 (i + 1 + m2) d5) = W := ⟨_, rfl⟩
        have HT := Lib.hid (show RbAt W8 q B5 d5 (l.take i ++ [(⟨k, 0, 0⟩ : Us)] ++ l.drop i) ∧ Spares (fun k => k = q) w W8 ∧ (B5 = (some ad) ∨ ∀ ad, B5 = some ad → w.heap.size ≤ ad.block) ∧ (l.take i ++ [(⟨k, 0, 0⟩ : Us)] ++ l.drop i)[i]? = some ⟨k, a0, v0⟩ ∧ (l.take i ++ [(⟨k, 0, 0⟩ : Us)] ++ l.drop i).length ≤ 1000000 ∧ RiseU (l.take i ++ [(⟨k, 0, 0⟩ : Us)] ++ l.drop i) ∧ ∀ x : Us, x = ⟨k, a1, v0⟩ → (l.take i ++ [(⟨k, 0, 0⟩ : Us)] ++ l.drop i).set i x = uput x l from by
          have hll := HLN.out.2.2.2
          have hown := HLw7.out.own
          have hlt := Nat.lt_of_lt_of_le HBW.out.lt HG.out.size
          have hnq : ∀ k, (Value.slice B5 (i + 1 + m2) d5).ownBlock = some k → k ≠ q := fun k hk e => by have := (owned_lt3 hown hk).1; omega
          have hgw : Grows w w7 := ((Spares.grows (own := fun k => wr.heap.size ≤ k) HG.out).trans HCw7.out.sp).below (Nat.le_refl _) fun k hk e => by have := HG.out.size; omega
          have ho6 : W8.ownsRow wr.heap.size 34 3 (.slice B5 (i + 1 + m2) d5) (i + 1 + m2) ((l.take i ++ [(⟨k, 0, 0⟩ : Us)] ++ l.drop i).flatMap usE) := by rw [← hW8]; exact owned_same3 hown fun k hk => Below.heap_setCell _ _ _ _ fun e => hnq k hk e
          have hbk : ∀ ad, B5 = some ad → wr.heap.size ≤ ad.block := fun ad e => by subst e; exact (owned_lt3 hown (k := ad.block) rfl).1
          refine ⟨⟨?_, ?_, fun ad e => ?_⟩, ?_, .inr fun ad e => ?_, by rw [HZ.out.2.1, HZ.out.2.2]; exact HINS.out.1, by rw [hll]; exact HLN.out.2.2.1.2, HINS.out.2.1, fun x e => HINS.out.2.2 x (by rw [e])⟩
          · rw [hll, ← hW8]
            exact Whole.put (show Whole w7 q 54 #[_] from H7.out) 0 _
          · rw [hll]
            exact Rs.owned usL hll ho6
          · have := hbk ad e
            omega
          · rw [← hW8]
            exact Spares.setCell (own := fun k => k = q) (p := ⟨q, 0, none⟩) (Spares.grows hgw) rfl _
          · exact Nat.le_trans HG.out.size (hbk ad e))
        go_wp2_with (first | rw [hW8] | fail)
        clear d0 fz hW8
        have HAT := Lib.hid (at_some HT.out.1 HT.out.2.2.2.2.1 HT.out.2.2.2.2.2.1 HT.out.2.2.2.1 rfl)
        go_wp2_with (fail)
        refine HAT.out.mono ?_
        rintro e wa ⟨rfl, hga⟩
        have hra := HT.out.1.grow hga
        obtain ⟨mT, hmT⟩ : ∃ n, (l.take i ++ [(⟨k, 0, 0⟩ : Us)] ++ l.drop i).length = n := ⟨_, rfl⟩
        have hjm : i < mT := by rw [← hmT]; exact (List.getElem?_eq_some_iff.1 HT.out.2.2.2.1).1
        have hba := hra.box
        have hua := hra.row
        rw [hmT] at hba hua
        obtain ⟨ad, y, hA, hy, hbl, hcy⟩ := Uss.at hua hjm
        obtain rfl : y = ⟨k, a0, v0⟩ := by have := HT.out.2.2.2.1; rw [hy] at this; exact Option.some.inj this
        obtain ⟨c0, c1, c2⟩ := hcy wa (Grows.refl _)
        dsimp only at c0 c1 c2
        have d0 := hba.cell
        rw [hA] at d0
        have p0 : (0 : Int) ≤ (i : Int) := by omega
        have p1 : (i : Int) < (mT : Int) := by omega
        obtain ⟨W3, hW3⟩ : ∃ W3, wa.alloc (.cells #[.int .i64 k, .int .i64 a0, .int .i64 v0] 34) = W3 := ⟨_, rfl⟩
        have hg3 : Grows wa W3 := hW3 ▸ grows_alloc _ _
        have hm3 : Whole W3 wa.heap.size 34 #[.int .i64 k, .int .i64 a0, .int .i64 v0] := by rw [← hW3]; exact Whole.made _ _ _
        have e1 := hm3.cell 1
        have f1 := hm3.free 1
        have hm4 : Whole (W3.setCell ⟨wa.heap.size, 1, none⟩ (.int .i64 a1)) wa.heap.size 34 #[.int .i64 k, .int .i64 a1, .int .i64 v0] := hm3.put 1 _
        have hg4 : Grows wa (W3.setCell ⟨wa.heap.size, 1, none⟩ (.int .i64 a1)) := Below.setCell (p := ⟨wa.heap.size, 1, none⟩) hg3 (Nat.le_refl _) _
        obtain ⟨W4, hW4⟩ : ∃ W4, W3.setCell ⟨wa.heap.size, 1, none⟩ (.int .i64 a1) = W4 := ⟨_, rfl⟩
        rw [hW4] at hm4 hg4
        have g0 := hm4.cell 0
        have g1 := hm4.cell 1
        have g2 := hm4.cell 2
        simp only [List.getElem?_toArray, List.getElem?_cons_zero, List.getElem?_cons_succ] at e1 g0 g1 g2
        have hgf := Grows.trans hga hg4
        have HST := Lib.hid (show Calls Try.prog 29 #[.pointer (some ⟨q, 0, none⟩), .int .i64 (i : Int), .agg #[.int .i64 k, .int .i64 a1, .int .i64 v0]] W4 fun e w' => e = .returned (.tuple #[]) ∧ RbTo W4 q B5 ((l.take i ++ [(⟨k, 0, 0⟩ : Us)] ++ l.drop i).set i ⟨k, a1, v0⟩) w' from
          rset_use (HT.out.1.grow hgf) HT.out.2.2.2.2.1 (by rw [hmT]; exact hjm) ⟨k, a1, v0⟩)
        have HGF := Lib.hid hgf
        obtain ⟨wa1, wa2⟩ := HWA.out
        clear hga hra hba hua hy hbl hcy hg3 hm3 hm4 hg4 hgf hjm 
        go_wp2_with (first | rw [hW3] | rw [hW4] | fail)
        refine HST.out.mono ?_
        rintro e w9 ⟨rfl, hto⟩
        have HTO := Lib.hid hto
        clear hto
        go_wp2_with (fail)
        go_ret
        have hto := HTO.out
        rw [HT.out.2.2.2.2.2.2 _ rfl] at hto
        exact ⟨rfl, RbTo.after HT.out.2.1 (HT.out.2.2.1) HGF.out hto⟩
    · have hpost : ∀ z ∈ l.drop i, k < z.seg := fun z hz => by
        rw [List.drop_eq_nil_of_le (by have := HML.out; omega)] at hz
        cases hz
      have hnl : ¬ ((i : Int) < (m : Int)) := by omega
      clear hbr
      obtain ⟨hs1, A2, m2, c3, hs2, hm2, hdk⟩ := slice_cut (HROW.out.grow HG.out) hi (by have := HML.out.2; omega)
      have HS1 := Lib.hid hs1
      have HS2 := Lib.hid hs2
      have HBX := Lib.hid (show ∀ w', Keep3 wr.heap.size wr w' → w'.cell? { block := q, off := 0 } = some (.slice (A) m c) from fun w' hC => (show Boxed w' q 54 (.slice (A) m c) from (hC.sp.same q (Nat.lt_of_lt_of_le HBW.out.lt HG.out.size) (by have := HBW.out.lt; have := HG.out.size; omega)).trans ((HG.out.block _ HBW.out.lt).trans HBW.out)).cell)
      have HUK := Lib.hid (show ∀ w', Keep3 wr.heap.size wr w' → Uss w' (A) m c l from fun w' hC => uss_keep (HROW.out.grow HG.out) hC)
      have HTK := Lib.hid (show ∀ w', Keep3 wr.heap.size wr w' → 0 < i → Lies w' (A) (l.take i) from fun w' hC hp => by
        obtain ⟨aX, _, e, _⟩ := Uss.at (HUK.out w' hC) (i := 0) (by omega)
        refine ⟨aX, e, ?_⟩
        have h1 := HUK.out w' hC
        rw [e] at h1
        exact cells_take h1 i)
      have HDK := Lib.hid (show ∀ w', Keep3 wr.heap.size wr w' → 0 < m2 → Lies w' A2 (l.drop i) from fun w' hC hp => by
        obtain ⟨aX, e, hh⟩ := hdk hp
        exact ⟨aX, e, hh w' (HUK.out w' hC)⟩)
      have HLN := Lib.hid (show ((l.take i).length = i ∧ 0 + i ≤ 1000000) ∧ (([(⟨k, 0, 0⟩ : Us)]).length = 1 ∧ i + 1 ≤ 1000000) ∧ ((l.drop i).length = m2 ∧ i + 1 + m2 ≤ 1000000) ∧ (l.take i ++ [(⟨k, 0, 0⟩ : Us)] ++ l.drop i).length = i + 1 + m2 from by
        have h1 := HML.out
        refine ⟨⟨by rw [List.length_take]; omega, by omega⟩, ⟨rfl, by omega⟩, ⟨by rw [List.length_drop]; omega, by omega⟩, ?_⟩
        rw [List.length_append, List.length_append, List.length_take, List.length_drop, List.length_singleton]
        omega)
      have HINS := Lib.hid (ins_at HX.out.2.1.rise HPRE.out hpost (by have := HML.out.1; omega))
      clear hs1 hs2 hm2 hdk hpost
      go_wp2_with (fail)
      refine wp_region_jobs (G := Grows) (E := Keep3 (wr.heap.size)) 20 [vJob (wr.heap.size) (.pointer (some ⟨q, 0, none⟩)), cJob (wr.heap.size) Nat 0 (fun g => .slice (some ⟨g, 0, none⟩) 0 0) (fun g w' => Chain (wr.heap.size) [] 0 (some ⟨g, 0, none⟩) 0 w') (fun _ _ _ h hg => h.grow hg), vJob (wr.heap.size) (.pointer (some ⟨q, 0, none⟩)), vJob (wr.heap.size) (.pointer (some ⟨q, 0, none⟩)), vJob (wr.heap.size) (.pointer (some ⟨q, 0, none⟩)), vJob (wr.heap.size) (.slice (A) m c), vJob (wr.heap.size) (.int .i64 (i : Int)), vJob (wr.heap.size) (.slice (A) i c), cJob (wr.heap.size) (Option Addr × Nat) (none, 0) (fun p => .slice p.1 (i) p.2) (fun p w' => Chain (wr.heap.size) (l.take i) (i) p.1 p.2 w') (fun _ _ _ h hg => h.grow hg), vJob (wr.heap.size) (.int .i64 k), vJob (wr.heap.size) (.agg #[.int .i64 k, .int .i64 0, .int .i64 0]), mJob (wr.heap.size) (34) (#[.int .i64 k, .int .i64 0, .int .i64 0]) rfl, cJob (wr.heap.size) (Option Addr × Nat) (none, 0) (fun p => .slice p.1 (i + 1) p.2) (fun p w' => Chain (wr.heap.size) (l.take i ++ [(⟨k, 0, 0⟩ : Us)]) (i + 1) p.1 p.2 w') (fun _ _ _ h hg => h.grow hg), vJob (wr.heap.size) (.pointer (some ⟨q, 0, none⟩)), vJob (wr.heap.size) (.pointer (some ⟨q, 0, none⟩)), vJob (wr.heap.size) (.pointer (some ⟨q, 0, none⟩)), vJob (wr.heap.size) (.slice (A) m c), vJob (wr.heap.size) (.int .i64 (i : Int)), vJob (wr.heap.size) (.slice A2 m2 c3), cJob (wr.heap.size) (Option Addr × Nat) (none, 0) (fun p => .slice p.1 (i + 1 + m2) p.2) (fun p w' => Chain (wr.heap.size) (l.take i ++ [(⟨k, 0, 0⟩ : Us)] ++ l.drop i) (i + 1 + m2) p.1 p.2 w') (fun _ _ _ h hg => h.grow hg)] [(false, false), (true, true), (false, false), (false, false), (false, false), (false, false), (false, false), (false, false), (true, true), (false, false), (false, false), (false, false), (true, true), (false, false), (false, false), (false, false), (false, false), (false, false), (false, false), (true, true)] (fun _ => True) rfl mixed (by kernel_rfl) (fun _ _ => Keep3.ofGrows) (fun _ _ _ => Keep3.trans) (keep3_drew _ _) trivial (fun _ _ h _ => h) ?_
      simp only [List.take_succ_cons, List.take_zero, List.drop_succ_cons, List.drop_zero]
      refine ke_val (.pointer (some ⟨q, 0, none⟩)) (by rfl) ?_ ?_
      · intro w' hC; clear hC; go_simp
      simp only [Act.put, List.setIfInBounds_toArray, List.set_cons_zero, List.set_cons_succ]
      refine ke_cls (by rfl) (fun w' hC hcls hks => ⟨w'.heap.size, w'.alloc (.cells #[] 34), by go_simp, Keep3.ofGrows (grows_alloc _ _), ⟨World.ownsRow_lit w' #[] 0 hC.sp.size (Nat.zero_le _) rfl, fun _ => rfl, by simp⟩⟩) ?_
      intro g1
      dsimp only
      simp only [Act.put, List.setIfInBounds_toArray, List.set_cons_zero, List.set_cons_succ]
      refine ke_val (.pointer (some ⟨q, 0, none⟩)) (by rfl) ?_ ?_
      · intro w' hC; clear hC; go_simp
      simp only [Act.put, List.setIfInBounds_toArray, List.set_cons_zero, List.set_cons_succ]
      refine ke_val (.pointer (some ⟨q, 0, none⟩)) (by rfl) ?_ ?_
      · intro w' hC; clear hC; go_simp
      simp only [Act.put, List.setIfInBounds_toArray, List.set_cons_zero, List.set_cons_succ]
      refine ke_val (.pointer (some ⟨q, 0, none⟩)) (by rfl) ?_ ?_
      · intro w' hC; clear hC; go_simp
      simp only [Act.put, List.setIfInBounds_toArray, List.set_cons_zero, List.set_cons_succ]
      refine ke_val (.slice (A) m c) (by rfl) ?_ ?_
      · intro w' hC; have z := HBX.out w' hC; clear hC; go_simp
      simp only [Act.put, List.setIfInBounds_toArray, List.set_cons_zero, List.set_cons_succ]
      refine ke_val (.int .i64 (i : Int)) (by rfl) ?_ ?_
      · intro w' hC; clear hC; go_simp
      simp only [Act.put, List.setIfInBounds_toArray, List.set_cons_zero, List.set_cons_succ]
      refine ke_val (.slice (A) i c) (by rfl) ?_ ?_
      · intro w' hC; have z := HS1.out w'; clear hC; go_simp
      simp only [Act.put, List.setIfInBounds_toArray, List.set_cons_zero, List.set_cons_succ]
      refine ke_cls (by rfl) (fun w' hC hcls hks => ?_) ?_
      · obtain ⟨A', c', w2, hr, hc2, hk2⟩ := chain_append (ty := 40) hcls (fun hp => HTK.out w' hC hp) HLN.out.1 hC.sp.size (k := i) (Nat.zero_add i) (l3 := l.take i) rfl
        exact ⟨(A', c'), w2, exec_app rfl rfl rfl hr, hk2, hc2⟩
      rintro ⟨B2, d2⟩
      dsimp only
      simp only [Act.put, List.setIfInBounds_toArray, List.set_cons_zero, List.set_cons_succ]
      refine ke_val (.int .i64 k) (by rfl) ?_ ?_
      · intro w' hC; clear hC; go_simp
      simp only [Act.put, List.setIfInBounds_toArray, List.set_cons_zero, List.set_cons_succ]
      refine ke_val (.agg #[.int .i64 k, .int .i64 0, .int .i64 0]) (by rfl) ?_ ?_
      · intro w' hC; clear hC; go_simp
      simp only [Act.put, List.setIfInBounds_toArray, List.set_cons_zero, List.set_cons_succ]
      refine ke_made (34) (#[.int .i64 k, .int .i64 0, .int .i64 0]) rfl (by rfl) ?_ ?_
      · intro w' hC; clear hC; go_simp
      intro g2
      simp only [Act.put, List.setIfInBounds_toArray, List.set_cons_zero, List.set_cons_succ]
      refine ke_cls (by rfl) (fun w' hC hcls hks => ?_) ?_
      · obtain ⟨A', c', w2, hr, hc2, hk2⟩ := chain_append (ty := 40) hcls (l2 := [(⟨k, 0, 0⟩ : Us)]) (fun _ => ⟨⟨g2, 0, none⟩, rfl, fun t u hu => cell_lit (Known.get hks 0 rfl rfl) t u hu⟩) HLN.out.2.1 hC.sp.size (k := i + 1) rfl (l3 := l.take i ++ [(⟨k, 0, 0⟩ : Us)]) rfl
        exact ⟨(A', c'), w2, exec_app rfl rfl rfl hr, hk2, hc2⟩
      rintro ⟨B3, d3⟩
      dsimp only
      simp only [Act.put, List.setIfInBounds_toArray, List.set_cons_zero, List.set_cons_succ]
      refine ke_val (.pointer (some ⟨q, 0, none⟩)) (by rfl) ?_ ?_
      · intro w' hC; clear hC; go_simp
      simp only [Act.put, List.setIfInBounds_toArray, List.set_cons_zero, List.set_cons_succ]
      refine ke_val (.pointer (some ⟨q, 0, none⟩)) (by rfl) ?_ ?_
      · intro w' hC; clear hC; go_simp
      simp only [Act.put, List.setIfInBounds_toArray, List.set_cons_zero, List.set_cons_succ]
      refine ke_val (.pointer (some ⟨q, 0, none⟩)) (by rfl) ?_ ?_
      · intro w' hC; clear hC; go_simp
      simp only [Act.put, List.setIfInBounds_toArray, List.set_cons_zero, List.set_cons_succ]
      refine ke_val (.slice (A) m c) (by rfl) ?_ ?_
      · intro w' hC; have z := HBX.out w' hC; clear hC; go_simp
      simp only [Act.put, List.setIfInBounds_toArray, List.set_cons_zero, List.set_cons_succ]
      refine ke_val (.int .i64 (i : Int)) (by rfl) ?_ ?_
      · intro w' hC; clear hC; go_simp
      simp only [Act.put, List.setIfInBounds_toArray, List.set_cons_zero, List.set_cons_succ]
      refine ke_val (.slice A2 m2 c3) (by rfl) ?_ ?_
      · intro w' hC; have z := HS2.out w'; clear hC; go_simp
      simp only [Act.put, List.setIfInBounds_toArray, List.set_cons_zero, List.set_cons_succ]
      refine ke_cls (by rfl) (fun w' hC hcls hks => ?_) ?_
      · obtain ⟨A', c', w2, hr, hc2, hk2⟩ := chain_append (ty := 40) hcls (fun hp => HDK.out w' hC hp) HLN.out.2.2.1 hC.sp.size (k := i + 1 + m2) rfl (l3 := l.take i ++ [(⟨k, 0, 0⟩ : Us)] ++ l.drop i) rfl
        exact ⟨(A', c'), w2, exec_app rfl rfl rfl hr, hk2, hc2⟩
      rintro ⟨B5, d5⟩
      dsimp only
      simp only [Act.put, List.setIfInBounds_toArray, List.set_cons_zero, List.set_cons_succ]
      refine ke_end ?_
      intro w7 hC hks hcls
      have HCw7 := Lib.hid hC
      have HLw7 := Lib.hid hcls
      clear hC hks hcls
      have hbx : Boxed w7 q 54 (.slice (A) m c) := (HCw7.out.sp.same q (Nat.lt_of_lt_of_le HBW.out.lt HG.out.size) (by have := HBW.out.lt; have := HG.out.size; omega)).trans ((HG.out.block _ HBW.out.lt).trans HBW.out)
      have d0 := hbx.cell
      have fz : w7.frozen? ⟨q, 0, none⟩ = false := Whole.free (show Whole w7 q 54 #[_] from hbx) 0
      have H7 := Lib.hid hbx
      clear hbx
      obtain ⟨W8, hW8⟩ : ∃ W, w7.setCell ⟨q, 0, none⟩ (.slice B5 (i + 1 + m2) d5) = W := ⟨_, rfl⟩
      have HT := Lib.hid (show RbAt W8 q B5 d5 (l.take i ++ [(⟨k, 0, 0⟩ : Us)] ++ l.drop i) ∧ Spares (fun k => k = q) w W8 ∧ (B5 = (A) ∨ ∀ ad, B5 = some ad → w.heap.size ≤ ad.block) ∧ (l.take i ++ [(⟨k, 0, 0⟩ : Us)] ++ l.drop i)[i]? = some ⟨k, a0, v0⟩ ∧ (l.take i ++ [(⟨k, 0, 0⟩ : Us)] ++ l.drop i).length ≤ 1000000 ∧ RiseU (l.take i ++ [(⟨k, 0, 0⟩ : Us)] ++ l.drop i) ∧ ∀ x : Us, x = ⟨k, a1, v0⟩ → (l.take i ++ [(⟨k, 0, 0⟩ : Us)] ++ l.drop i).set i x = uput x l from by
        have hll := HLN.out.2.2.2
        have hown := HLw7.out.own
        have hlt := Nat.lt_of_lt_of_le HBW.out.lt HG.out.size
        have hnq : ∀ k, (Value.slice B5 (i + 1 + m2) d5).ownBlock = some k → k ≠ q := fun k hk e => by have := (owned_lt3 hown hk).1; omega
        have hgw : Grows w w7 := ((Spares.grows (own := fun k => wr.heap.size ≤ k) HG.out).trans HCw7.out.sp).below (Nat.le_refl _) fun k hk e => by have := HG.out.size; omega
        have ho6 : W8.ownsRow wr.heap.size 34 3 (.slice B5 (i + 1 + m2) d5) (i + 1 + m2) ((l.take i ++ [(⟨k, 0, 0⟩ : Us)] ++ l.drop i).flatMap usE) := by rw [← hW8]; exact owned_same3 hown fun k hk => Below.heap_setCell _ _ _ _ fun e => hnq k hk e
        have hbk : ∀ ad, B5 = some ad → wr.heap.size ≤ ad.block := fun ad e => by subst e; exact (owned_lt3 hown (k := ad.block) rfl).1
        refine ⟨⟨?_, ?_, fun ad e => ?_⟩, ?_, .inr fun ad e => ?_, by rw [HZ.out.2.1, HZ.out.2.2]; exact HINS.out.1, by rw [hll]; exact HLN.out.2.2.1.2, HINS.out.2.1, fun x e => HINS.out.2.2 x (by rw [e])⟩
        · rw [hll, ← hW8]
          exact Whole.put (show Whole w7 q 54 #[_] from H7.out) 0 _
        · rw [hll]
          exact Rs.owned usL hll ho6
        · have := hbk ad e
          omega
        · rw [← hW8]
          exact Spares.setCell (own := fun k => k = q) (p := ⟨q, 0, none⟩) (Spares.grows hgw) rfl _
        · exact Nat.le_trans HG.out.size (hbk ad e))
      go_wp2_with (first | rw [hW8] | fail)
      clear d0 fz hW8
      have HAT := Lib.hid (at_some HT.out.1 HT.out.2.2.2.2.1 HT.out.2.2.2.2.2.1 HT.out.2.2.2.1 rfl)
      go_wp2_with (fail)
      refine HAT.out.mono ?_
      rintro e wa ⟨rfl, hga⟩
      have hra := HT.out.1.grow hga
      obtain ⟨mT, hmT⟩ : ∃ n, (l.take i ++ [(⟨k, 0, 0⟩ : Us)] ++ l.drop i).length = n := ⟨_, rfl⟩
      have hjm : i < mT := by rw [← hmT]; exact (List.getElem?_eq_some_iff.1 HT.out.2.2.2.1).1
      have hba := hra.box
      have hua := hra.row
      rw [hmT] at hba hua
      obtain ⟨ad, y, hA, hy, hbl, hcy⟩ := Uss.at hua hjm
      obtain rfl : y = ⟨k, a0, v0⟩ := by have := HT.out.2.2.2.1; rw [hy] at this; exact Option.some.inj this
      obtain ⟨c0, c1, c2⟩ := hcy wa (Grows.refl _)
      dsimp only at c0 c1 c2
      have d0 := hba.cell
      rw [hA] at d0
      have p0 : (0 : Int) ≤ (i : Int) := by omega
      have p1 : (i : Int) < (mT : Int) := by omega
      obtain ⟨W3, hW3⟩ : ∃ W3, wa.alloc (.cells #[.int .i64 k, .int .i64 a0, .int .i64 v0] 34) = W3 := ⟨_, rfl⟩
      have hg3 : Grows wa W3 := hW3 ▸ grows_alloc _ _
      have hm3 : Whole W3 wa.heap.size 34 #[.int .i64 k, .int .i64 a0, .int .i64 v0] := by rw [← hW3]; exact Whole.made _ _ _
      have e1 := hm3.cell 1
      have f1 := hm3.free 1
      have hm4 : Whole (W3.setCell ⟨wa.heap.size, 1, none⟩ (.int .i64 a1)) wa.heap.size 34 #[.int .i64 k, .int .i64 a1, .int .i64 v0] := hm3.put 1 _
      have hg4 : Grows wa (W3.setCell ⟨wa.heap.size, 1, none⟩ (.int .i64 a1)) := Below.setCell (p := ⟨wa.heap.size, 1, none⟩) hg3 (Nat.le_refl _) _
      obtain ⟨W4, hW4⟩ : ∃ W4, W3.setCell ⟨wa.heap.size, 1, none⟩ (.int .i64 a1) = W4 := ⟨_, rfl⟩
      rw [hW4] at hm4 hg4
      have g0 := hm4.cell 0
      have g1 := hm4.cell 1
      have g2 := hm4.cell 2
      simp only [List.getElem?_toArray, List.getElem?_cons_zero, List.getElem?_cons_succ] at e1 g0 g1 g2
      have hgf := Grows.trans hga hg4
      have HST := Lib.hid (show Calls Try.prog 29 #[.pointer (some ⟨q, 0, none⟩), .int .i64 (i : Int), .agg #[.int .i64 k, .int .i64 a1, .int .i64 v0]] W4 fun e w' => e = .returned (.tuple #[]) ∧ RbTo W4 q B5 ((l.take i ++ [(⟨k, 0, 0⟩ : Us)] ++ l.drop i).set i ⟨k, a1, v0⟩) w' from
        rset_use (HT.out.1.grow hgf) HT.out.2.2.2.2.1 (by rw [hmT]; exact hjm) ⟨k, a1, v0⟩)
      have HGF := Lib.hid hgf
      obtain ⟨wa1, wa2⟩ := HWA.out
      clear hga hra hba hua hy hbl hcy hg3 hm3 hm4 hg4 hgf hjm 
      go_wp2_with (first | rw [hW3] | rw [hW4] | fail)
      refine HST.out.mono ?_
      rintro e w9 ⟨rfl, hto⟩
      have HTO := Lib.hid hto
      clear hto
      go_wp2_with (fail)
      go_ret
      have hto := HTO.out
      rw [HT.out.2.2.2.2.2.2 _ rfl] at hto
      exact ⟨rfl, RbTo.after HT.out.2.1 (HT.out.2.2.1) HGF.out hto⟩

end Go.Proofs.Ytlldcogkcjnejaa
