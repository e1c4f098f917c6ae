/-
  souterrainlaw12.BookWorst: after any calls (any list of at most 200) Worst tells each segment once, none ahead of one of which more is dead, of like ones the least number first.
-/
import Derived.Test.YtlldcogkcjnejaaBkOps
import Derived.Test.YtlldcogkcjnejaaBkMore
import Derived.ProofKit
import Derived.ChangeOld
namespace Go.Proofs.Ytlldcogkcjnejaa
open Go.Maps Go.Shelf Go.Sort Go.ChangeShapes Go.WideShapes Go.ChangeAt Go.RowKit
set_option linter.unusedSimpArgs false
set_option linter.unusedVariables false
attribute [local irreducible] wpF
attribute [local irreducible] Go.wpQuiet

set_option maxRecDepth 100000 in
set_option maxHeartbeats 8000000 in
theorem bookWorst_law (w : World) (A : Option Addr) (n c : Nat) (os : List O12) (hx : Ops12 w A n c os) :
    Calls Try.prog 5 #[.slice A n c] w fun e w' => e = .returned (.bool true) ∧ Below w.heap.size w w' := by
  have HX := Lib.hid hx
  clear hx
  go_enter Try.func5, Try.ntmps5
  go_wp2_with (fail)
  refine (head12_any w).mono ?_
  rintro e w0 ⟨rfl, hg0⟩
  have HG0 := Lib.hid hg0
  clear hg0
  go_wp2_with (fail)
  refine (new_any w0).mono ?_
  rintro e w1 ⟨pb, bb, rfl, hb1, hg1, hp1, hq1⟩
  have H1 := Lib.hid (And.intro hb1 (Grows.trans HG0.out hg1))
  have HLO := Lib.hid (show w.heap.size ≤ bb from by have := HG0.out.size; omega)
  clear hb1 hg1 hp1 hq1
  by_cases hn : 200 < n
  · go_wp2_with (fail)
    go_ret
    exact ⟨rfl, H1.out.2⟩
  go_wp2_with (fail)
  go_loopw [5] (fun vi wr => ∃ (i nb : Nat) (l : List Us), i ≤ n ∧ vi = .int .i64 (i : Int) ∧ Hid (BkAt wr pb bb nb l) ∧ Hid (nb ≤ i) ∧ Hid (Grows w wr)) (fun vi _ => n - (intOf vi).toNat)
  case atStart => exact ⟨0, 0, [], Nat.zero_le _, rfl, Lib.hid H1.out.1, Lib.hid (Nat.le_refl _), Lib.hid H1.out.2⟩
  case round =>
    obtain ⟨i, nb, l, hi, rfl, HBB, HNB, HG⟩ := hrel
    by_cases hlt : i < n
    · have HNN := Lib.hid (show nb ≤ i ∧ i < 200 from by have := HNB.out; omega)
      clear hn
      obtain ⟨ad, ⟨qw, qs, qn, ql⟩, hA, hos, hbl, hok, hcs⟩ := Ops12.at (HX.out.grow HG.out) hlt
      subst hA
      have HCS := Lib.hid (show ∀ w', Grows wr w' → w'.cell? (ad.add (i * 4)) = some (.int .i64 qw) ∧ w'.cell? { block := (ad.add (i * 4)).block, off := (ad.add (i * 4)).off + 1 } = some (.int .i64 qs) ∧ w'.cell? { block := (ad.add (i * 4)).block, off := (ad.add (i * 4)).off + 2 } = some (.int .i64 qn) ∧ w'.cell? { block := (ad.add (i * 4)).block, off := (ad.add (i * 4)).off + 3 } = some (.bool ql) from hcs)
      have HOS := Lib.hid (And.intro hos hok)
      obtain ⟨c0, c1, c2, c3⟩ := HCS.out wr (Grows.refl _)
      have k0 : (0 : Int) ≤ (i : Int) := by omega
      have k1 : (i : Int) < (n : Int) := by omega
      have HKI := Lib.hid (And.intro k0 k1)
      clear hos hok hbl hcs
      by_cases hw3 : qw = 3
      · subst hw3
        go_wp2_with (fail)
        refine wp_region_facts_tail (E := Grows) 11 [valFact (.pointer (some ⟨pb, 0, none⟩)), valFact (.slice (some ad) n c), valFact (.int .i64 (i : Int)), valFact (.pointer (some (ad.add (i * 4)))), valFact (.pointer (some { block := (ad.add (i * 4)).block, off := (ad.add (i * 4)).off + 1 })), valFact (.int .i64 qs), valFact (.slice (some ad) n c), valFact (.int .i64 (i : Int)), valFact (.pointer (some (ad.add (i * 4)))), valFact (.pointer (some { block := (ad.add (i * 4)).block, off := (ad.add (i * 4)).off + 2 })), valFact (.int .i64 qn)] mixed (by kernel_rfl) (fun _ _ _ => Grows.trans) (grows_drew _) ?_
        simp only [List.take_succ_cons, List.take_zero, List.drop_succ_cons, List.drop_zero]
        refine f_val (.pointer (some ⟨pb, 0, none⟩)) (by rfl) ?_ ?_
        · intro w' hC; clear hC; go_simp
        simp only [Act.put, List.setIfInBounds_toArray, List.set_cons_zero, List.set_cons_succ]
        refine f_val (.slice (some ad) n c) (by rfl) ?_ ?_
        · intro w' hC; clear hC; go_simp
        simp only [Act.put, List.setIfInBounds_toArray, List.set_cons_zero, List.set_cons_succ]
        refine f_val (.int .i64 (i : Int)) (by rfl) ?_ ?_
        · intro w' hC; clear hC; go_simp
        simp only [Act.put, List.setIfInBounds_toArray, List.set_cons_zero, List.set_cons_succ]
        refine f_val (.pointer (some (ad.add (i * 4)))) (by rfl) ?_ ?_
        · intro w' hC; have k0 := HKI.out; clear hC; go_simp
        simp only [Act.put, List.setIfInBounds_toArray, List.set_cons_zero, List.set_cons_succ]
        refine f_val (.pointer (some { block := (ad.add (i * 4)).block, off := (ad.add (i * 4)).off + 1 })) (by rfl) ?_ ?_
        · intro w' hC; clear hC; go_simp
        simp only [Act.put, List.setIfInBounds_toArray, List.set_cons_zero, List.set_cons_succ]
        refine f_val (.int .i64 qs) (by rfl) ?_ ?_
        · intro w' hC; have q := HCS.out w' hC; have q0 := q.2.1; have q1 := q.2.2.1; have q2 := q.2.2.2; clear hC; go_simp
        simp only [Act.put, List.setIfInBounds_toArray, List.set_cons_zero, List.set_cons_succ]
        refine f_val (.slice (some ad) n c) (by rfl) ?_ ?_
        · intro w' hC; clear hC; go_simp
        simp only [Act.put, List.setIfInBounds_toArray, List.set_cons_zero, List.set_cons_succ]
        refine f_val (.int .i64 (i : Int)) (by rfl) ?_ ?_
        · intro w' hC; clear hC; go_simp
        simp only [Act.put, List.setIfInBounds_toArray, List.set_cons_zero, List.set_cons_succ]
        refine f_val (.pointer (some (ad.add (i * 4)))) (by rfl) ?_ ?_
        · intro w' hC; have k0 := HKI.out; clear hC; go_simp
        simp only [Act.put, List.setIfInBounds_toArray, List.set_cons_zero, List.set_cons_succ]
        refine f_val (.pointer (some { block := (ad.add (i * 4)).block, off := (ad.add (i * 4)).off + 2 })) (by rfl) ?_ ?_
        · intro w' hC; clear hC; go_simp
        simp only [Act.put, List.setIfInBounds_toArray, List.set_cons_zero, List.set_cons_succ]
        refine f_val (.int .i64 qn) (by rfl) ?_ ?_
        · intro w' hC; have q := HCS.out w' hC; have q0 := q.2.1; have q1 := q.2.2.1; have q2 := q.2.2.2; clear hC; go_simp
        simp only [Act.put, List.setIfInBounds_toArray, List.set_cons_zero, List.set_cons_succ]
        refine wpF_end ?_
        intro w3 hC hks
        have HCw3 := Lib.hid hC
        clear hC hks
        have hb0 := HBB.out.grow HCw3.out
        have HCL := Lib.hid (kill_use hb0 (by have := HNN.out; omega) (k := qs) HOS.out.2.seg.1 HOS.out.2.seg.2 qn)
        clear hb0
        go_wp2_with (fail)
        refine HCL.out.mono ?_
        rintro e w4 ⟨⟨rfl, hb, hs⟩, _⟩
        have HF := Lib.hid (show BkAt w4 pb bb (nb + 1) (killU qs qn l) ∧ Grows w w4 from ⟨hb, grow_book (Grows.trans HG.out HCw3.out) hs HLO.out⟩)
        clear hb hs
        go_wp2_with (fail)
        go_roundw
        case rel => exact ⟨i + 1, nb + 1, _, by omega, by go_num, Lib.hid HF.out.1, Lib.hid (by have := HNN.out; omega), Lib.hid HF.out.2⟩
        case measure => simp [intOf]; omega
      have g3 : (qw == 3) = false := by rw [beq_eq_false_iff_ne]; exact hw3
      by_cases hw5 : qw = 5
      · subst hw5
        have hb0 := HBB.out.grow (Grows.refl _)
        have HCL := Lib.hid (drop_use hb0 (k := qs) HOS.out.2.seg.1 HOS.out.2.seg.2)
        clear hb0
        go_wp2_with (fail)
        refine HCL.out.mono ?_
        rintro e w4 ⟨rfl, hb, hs⟩
        have HF := Lib.hid (show BkAt w4 pb bb (nb + 1) (dropU qs l) ∧ Grows w w4 from ⟨hb, grow_book HG.out hs HLO.out⟩)
        clear hb hs
        go_wp2_with (fail)
        go_roundw
        case rel => exact ⟨i + 1, nb + 1, _, by omega, by go_num, Lib.hid HF.out.1, Lib.hid (by have := HNN.out; omega), Lib.hid HF.out.2⟩
        case measure => simp [intOf]; omega
      · have g5 : (qw == 5) = false := by rw [beq_eq_false_iff_ne]; exact hw5
        clear hw3 hw5
        go_wp2_with (fail)
        refine wp_region_facts_tail (E := Grows) 16 [valFact (.pointer (some ⟨pb, 0, none⟩)), valFact (.slice (some ad) n c), valFact (.int .i64 (i : Int)), valFact (.pointer (some (ad.add (i * 4)))), valFact (.pointer (some { block := (ad.add (i * 4)).block, off := (ad.add (i * 4)).off + 1 })), valFact (.int .i64 qs), valFact (.slice (some ad) n c), valFact (.int .i64 (i : Int)), valFact (.pointer (some (ad.add (i * 4)))), valFact (.pointer (some { block := (ad.add (i * 4)).block, off := (ad.add (i * 4)).off + 2 })), valFact (.int .i64 qn), valFact (.slice (some ad) n c), valFact (.int .i64 (i : Int)), valFact (.pointer (some (ad.add (i * 4)))), valFact (.pointer (some { block := (ad.add (i * 4)).block, off := (ad.add (i * 4)).off + 3 })), valFact (.bool ql)] mixed (by kernel_rfl) (fun _ _ _ => Grows.trans) (grows_drew _) ?_
        simp only [List.take_succ_cons, List.take_zero, List.drop_succ_cons, List.drop_zero]
        refine f_val (.pointer (some ⟨pb, 0, none⟩)) (by rfl) ?_ ?_
        · intro w' hC; clear hC; go_simp
        simp only [Act.put, List.setIfInBounds_toArray, List.set_cons_zero, List.set_cons_succ]
        refine f_val (.slice (some ad) n c) (by rfl) ?_ ?_
        · intro w' hC; clear hC; go_simp
        simp only [Act.put, List.setIfInBounds_toArray, List.set_cons_zero, List.set_cons_succ]
        refine f_val (.int .i64 (i : Int)) (by rfl) ?_ ?_
        · intro w' hC; clear hC; go_simp
        simp only [Act.put, List.setIfInBounds_toArray, List.set_cons_zero, List.set_cons_succ]
        refine f_val (.pointer (some (ad.add (i * 4)))) (by rfl) ?_ ?_
        · intro w' hC; have k0 := HKI.out; clear hC; go_simp
        simp only [Act.put, List.setIfInBounds_toArray, List.set_cons_zero, List.set_cons_succ]
        refine f_val (.pointer (some { block := (ad.add (i * 4)).block, off := (ad.add (i * 4)).off + 1 })) (by rfl) ?_ ?_
        · intro w' hC; clear hC; go_simp
        simp only [Act.put, List.setIfInBounds_toArray, List.set_cons_zero, List.set_cons_succ]
        refine f_val (.int .i64 qs) (by rfl) ?_ ?_
        · intro w' hC; have q := HCS.out w' hC; have q0 := q.2.1; have q1 := q.2.2.1; have q2 := q.2.2.2; clear hC; go_simp
        simp only [Act.put, List.setIfInBounds_toArray, List.set_cons_zero, List.set_cons_succ]
        refine f_val (.slice (some ad) n c) (by rfl) ?_ ?_
        · intro w' hC; clear hC; go_simp
        simp only [Act.put, List.setIfInBounds_toArray, List.set_cons_zero, List.set_cons_succ]
        refine f_val (.int .i64 (i : Int)) (by rfl) ?_ ?_
        · intro w' hC; clear hC; go_simp
        simp only [Act.put, List.setIfInBounds_toArray, List.set_cons_zero, List.set_cons_succ]
        refine f_val (.pointer (some (ad.add (i * 4)))) (by rfl) ?_ ?_
        · intro w' hC; have k0 := HKI.out; clear hC; go_simp
        simp only [Act.put, List.setIfInBounds_toArray, List.set_cons_zero, List.set_cons_succ]
        refine f_val (.pointer (some { block := (ad.add (i * 4)).block, off := (ad.add (i * 4)).off + 2 })) (by rfl) ?_ ?_
        · intro w' hC; clear hC; go_simp
        simp only [Act.put, List.setIfInBounds_toArray, List.set_cons_zero, List.set_cons_succ]
        refine f_val (.int .i64 qn) (by rfl) ?_ ?_
        · intro w' hC; have q := HCS.out w' hC; have q0 := q.2.1; have q1 := q.2.2.1; have q2 := q.2.2.2; clear hC; go_simp
        simp only [Act.put, List.setIfInBounds_toArray, List.set_cons_zero, List.set_cons_succ]
        refine f_val (.slice (some ad) n c) (by rfl) ?_ ?_
        · intro w' hC; clear hC; go_simp
        simp only [Act.put, List.setIfInBounds_toArray, List.set_cons_zero, List.set_cons_succ]
        refine f_val (.int .i64 (i : Int)) (by rfl) ?_ ?_
        · intro w' hC; clear hC; go_simp
        simp only [Act.put, List.setIfInBounds_toArray, List.set_cons_zero, List.set_cons_succ]
        refine f_val (.pointer (some (ad.add (i * 4)))) (by rfl) ?_ ?_
        · intro w' hC; have k0 := HKI.out; clear hC; go_simp
        simp only [Act.put, List.setIfInBounds_toArray, List.set_cons_zero, List.set_cons_succ]
        refine f_val (.pointer (some { block := (ad.add (i * 4)).block, off := (ad.add (i * 4)).off + 3 })) (by rfl) ?_ ?_
        · intro w' hC; clear hC; go_simp
        simp only [Act.put, List.setIfInBounds_toArray, List.set_cons_zero, List.set_cons_succ]
        refine f_val (.bool ql) (by rfl) ?_ ?_
        · intro w' hC; have q := HCS.out w' hC; have q0 := q.2.1; have q1 := q.2.2.1; have q2 := q.2.2.2; clear hC; go_simp
        simp only [Act.put, List.setIfInBounds_toArray, List.set_cons_zero, List.set_cons_succ]
        refine wpF_end ?_
        intro w3 hC hks
        have HCw3 := Lib.hid hC
        clear hC hks
        have hb0 := HBB.out.grow HCw3.out
        have HCL := Lib.hid (put_use hb0 (by have := HNN.out; omega) (k := qs) HOS.out.2.seg.1 HOS.out.2.seg.2 qn ql)
        clear hb0
        go_wp2_with (fail)
        refine HCL.out.mono ?_
        rintro e w4 ⟨⟨rfl, hb, hs⟩, _⟩
        have HF := Lib.hid (show BkAt w4 pb bb (nb + 1) (putU qs qn ql l) ∧ Grows w w4 from ⟨hb, grow_book (Grows.trans HG.out HCw3.out) hs HLO.out⟩)
        clear hb hs
        go_wp2_with (fail)
        go_roundw
        case rel => exact ⟨i + 1, nb + 1, _, by omega, by go_num, Lib.hid HF.out.1, Lib.hid (by have := HNN.out; omega), Lib.hid HF.out.2⟩
        case measure => simp [intOf]; omega
    · obtain rfl : i = n := by omega
      have HWO := Lib.hid (worst_use HBB.out (by have := HNB.out; omega))
      have HB0 := Lib.hid (And.intro HBB.out (And.intro HG.out (show nb ≤ 1000000 from by have := HNB.out; omega)))
      clear HBB HNB HG
      go_wp2_with (fail)
      refine HWO.out.mono ?_
      rintro e w5 ⟨B, cw, ws, rfl, hws, hrw, hg5⟩
      have hlw : ws.length = l.length := hws.1.length_eq
      have hfl := HB0.out.1.ok.few
      have hnb := HB0.out.2.2
      have hrw2 : w5.ownsRow wr.heap.size 3 1 (.slice B ws.length cw) ws.length ((ws.map (·.seg)).map intB) := by
        have e : ws.flatMap segV = (ws.map (·.seg)).map intB := by
          clear hws hrw hlw
          induction ws with
          | nil => rfl
          | cons x r ih => rw [List.flatMap_cons, ih]; rfl
        rw [← e]; exact hrw
      obtain ⟨k, hk⟩ : ∃ k, ws.length = k := ⟨_, rfl⟩
      rw [hk] at hrw2
      have HW := Lib.hid (show Row w5 w5.heap.size B k ((ws.map (·.seg)).map intB) ∧ Worst l ws ∧ ws.length = k ∧ k = l.length ∧ k ≤ 1000000 from ⟨row_segs (by rw [List.length_map, hk]) hrw2, hws, hk, by omega, by omega⟩)
      have HB5 := Lib.hid (show BkAt w5 pb bb nb l ∧ Grows w w5 from ⟨HB0.out.1.grow hg5, Grows.trans HB0.out.2.1 hg5⟩)
      rw [hk]
      clear hws hrw hg5 hlw hfl hrw2 hk hnb
      go_wp2_with (fail)
      go_loopw [7, 8, 9, 10, 11, 12, 13] (fun vi _ _ _ _ _ _ wr => ∃ (i : Nat), i ≤ k ∧ vi = .int .i64 (i : Int) ∧ Hid (Grows w5 wr)) (fun vi _ _ _ _ _ _ _ => k - (intOf vi).toNat)
      case atStart => exact ⟨0, Nat.zero_le _, rfl, Lib.hid (Grows.refl _)⟩
      case round =>
        obtain ⟨i, hi, rfl, HG⟩ := hrel
        by_cases hlt : i < k
        · obtain ⟨ad, us, hA, hcx, hux, hbx⟩ := row_intI (HG.out.row HW.out.1) hlt
          subst hA
          have hil : i < ws.length := by have := HW.out.2.2.1; omega
          obtain ⟨u, hu⟩ : ∃ u, ws[i]? = some u := ⟨_, List.getElem?_eq_getElem hil⟩
          have hus : u.seg = us := by
            rw [List.getElem?_map, hu] at hux
            exact Option.some.inj hux
          have hul : u ∈ l := HW.out.2.1.1.mem_iff.1 (List.mem_of_getElem? hu)
          have hue : useOf us l = u ∧ hasU us l = true := by
            have h1 := (ufind_some HB5.out.1.ok.rise).2 ⟨hul, hus⟩
            unfold useOf hasU
            rw [h1]
            exact ⟨rfl, rfl⟩
          have hue2 := HB5.out.1.ok.each u hul
          have HC1 := Lib.hid (show ∀ w', Grows wr w' → w'.cell? (ad.add i) = some (.int .i64 us) from fun w' h => (h.cell (by rw [add_block]; exact hbx)).trans hcx)
          have HU := Lib.hid (show ws[i]? = some u ∧ u.seg = us ∧ u ∈ l ∧ FitU u ∧ 0 ≤ us ∧ us ≤ 99999999 from ⟨hu, hus, hul, FitU.of HB5.out.1.ok u hul, by omega, by omega⟩)
          have HOF := Lib.hid (show ∀ W, Grows wr W → Calls Try.prog 18 #[.pointer (some ⟨pb, 0, none⟩), .int .i64 us] W fun e w' => e = .returned (.tuple #[usV u, .bool true]) ∧ Grows W w' from fun W hW => by
            have h0 := of_use (HB5.out.1.grow (Grows.trans HG.out hW)) (k := us) (by have := HU.out; omega) (by have := HU.out; omega)
            rw [hue.1, hue.2] at h0
            exact h0)
          have hcx := HC1.out wr (Grows.refl _)
          have k0 : (0 : Int) ≤ (i : Int) := by omega
          have k1 : (i : Int) < (k : Int) := by omega
          clear hux hbx hil hu hus hul hue hue2
          obtain ⟨u0, u1, u2⟩ := u
          dsimp only [usV] at HOF
          go_wp2_with (fail)
          refine (HOF.out wr (Grows.refl _)).mono ?_
          rintro e w6 ⟨rfl, hg6⟩
          obtain ⟨W6, hW6⟩ : ∃ W, w6.alloc (.cells #[.int .i64 u0, .int .i64 u1, .int .i64 u2] 34) = W := ⟨_, rfl⟩
          have H6 := Lib.hid (show Grows wr W6 ∧ Whole W6 w6.heap.size 34 #[.int .i64 u0, .int .i64 u1, .int .i64 u2] from ⟨Grows.trans hg6 (hW6 ▸ grows_alloc _ _), by rw [← hW6]; exact Whole.made _ _ _⟩)
          clear hg6 hcx
          by_cases hi0 : i = 0
          · subst hi0
            go_wp2_with (first | rw [hW6] | fail)
            clear hW6
            go_roundw
            case rel => exact ⟨0 + 1, by omega, by go_num, Lib.hid (Grows.trans HG.out H6.out.1)⟩
            case measure => simp [intOf]; omega
          have hipos : (0 : Int) < (i : Int) := by omega
          obtain ⟨j, hj⟩ : ∃ j, i - 1 = j := ⟨_, rfl⟩
          have kj : (i : Int) - 1 = (j : Int) := by omega
          have hki := HW.out.2.2.2.2
          obtain ⟨wj1, wj2⟩ := wrapI (x := (j : Int)) (by omega) (by omega)
          have kj0 : (0 : Int) ≤ (j : Int) := by omega
          have kj1 : (j : Int) < (k : Int) := by omega
          have HKJ := Lib.hid (And.intro kj (And.intro wj1 wj2))
          have HKI := Lib.hid (And.intro k0 (And.intro k1 (And.intro kj0 kj1)))
          obtain ⟨ad2, vs, hA2, hcy, hvx, hby⟩ := row_intI ((Grows.trans HG.out H6.out.1).row HW.out.1) (show j < k by omega)
          injection hA2 with hA2
          subst hA2
          have hjl : j < ws.length := by have := HW.out.2.2.1; omega
          obtain ⟨v, hv⟩ : ∃ v, ws[j]? = some v := ⟨_, List.getElem?_eq_getElem hjl⟩
          have hvs : v.seg = vs := by
            rw [List.getElem?_map, hv] at hvx
            exact Option.some.inj hvx
          have hvl : v ∈ l := HW.out.2.1.1.mem_iff.1 (List.mem_of_getElem? hv)
          have hve : useOf vs l = v ∧ hasU vs l = true := by
            have h1 := (ufind_some HB5.out.1.ok.rise).2 ⟨hvl, hvs⟩
            unfold useOf hasU
            rw [h1]
            exact ⟨rfl, rfl⟩
          have hve2 := HB5.out.1.ok.each v hvl
          have HC2 := Lib.hid (show ∀ w', Grows W6 w' → w'.cell? (ad.add j) = some (.int .i64 vs) from fun w' h => (h.cell (by rw [add_block]; exact hby)).trans hcy)
          have hord : deadU ⟨u0, u1, u2⟩ ≤ deadU v ∧ (deadU v = deadU ⟨u0, u1, u2⟩ → vs < us) := by
            have hpw := List.pairwise_iff_getElem.1 HW.out.2.1.2 j i hjl (by have := HW.out.2.2.1; omega) (by omega)
            have e1 : ws[j] = v := by have := hv; rw [List.getElem?_eq_getElem hjl] at this; exact Option.some.inj this
            have e2 : ws[i]'(by have := HW.out.2.2.1; omega) = ⟨u0, u1, u2⟩ := by have := HU.out.1; rw [List.getElem?_eq_getElem (by have := HW.out.2.2.1; omega)] at this; exact Option.some.inj this
            rw [e1, e2] at hpw
            have h1 := of_decide_eq_false hpw
            have hs : u0 = us := HU.out.2.1
            have hne : vs ≠ us := by
              intro e
              have h5 : (⟨u0, u1, u2⟩ : Us) = v := rise_seg HB5.out.1.ok.rise HU.out.2.2.1 hvl (by dsimp only; omega)
              have hnd : ws.Nodup := HW.out.2.1.1.nodup_iff.2 (rise_nodup HB5.out.1.ok.rise)
              have h6 := (List.nodup_iff_pairwise_ne.1 hnd)
              have h7 := List.pairwise_iff_getElem.1 h6 j i hjl (by have := HW.out.2.2.1; omega) (by omega)
              rw [e1, e2] at h7
              exact h7 h5.symm
            have h2 : ¬ (u0 < v.seg ∧ deadU ⟨u0, u1, u2⟩ = deadU v) := fun h => h1 (.inr ⟨h.2, h.1⟩)
            refine ⟨by have := h1; omega, fun h => ?_⟩
            have : ¬ u0 < v.seg := fun h3 => h2 ⟨h3, h.symm⟩
            omega
          have HO2 := Lib.hid (show ∀ W, Grows W6 W → Calls Try.prog 18 #[.pointer (some ⟨pb, 0, none⟩), .int .i64 vs] W fun e w' => e = .returned (.tuple #[usV v, .bool true]) ∧ Grows W w' from fun W hW => by
            have h0 := of_use (HB5.out.1.grow (Grows.trans (Grows.trans HG.out H6.out.1) hW)) (k := vs) (by omega) (by omega)
            rw [hve.1, hve.2] at h0
            exact h0)
          have hfu := HU.out.2.2.2.1
          have hfv := FitU.of HB5.out.1.ok v hvl
          obtain ⟨v0, v1, v2⟩ := v
          dsimp only [usV] at HO2
          obtain ⟨dx, hdx⟩ : ∃ d, v1 - v2 = d := ⟨_, rfl⟩
          obtain ⟨dy, hdy⟩ : ∃ d, u1 - u2 = d := ⟨_, rfl⟩
          have wd : (-9223372036854775808 ≤ dx ∧ dx ≤ 9223372036854775807) ∧ (-9223372036854775808 ≤ dy ∧ dy ≤ 9223372036854775807) := by
            have h1 : 0 ≤ u2 ∧ u2 ≤ u1 ∧ u1 ≤ 1125899906842624 := hfu
            have h2 : 0 ≤ v2 ∧ v2 ≤ v1 ∧ v1 ≤ 1125899906842624 := hfv
            omega
          obtain ⟨wx1, wx2⟩ := wrapI wd.1.1 wd.1.2
          obtain ⟨wy1, wy2⟩ := wrapI wd.2.1 wd.2.2
          have HOR := Lib.hid (show dy ≤ dx ∧ (dx = dy → vs < us) from by
            rw [← hdx, ← hdy]
            exact hord)
          have hcy := HC2.out W6 (Grows.refl _)
          clear hvx hby hjl hv hvs hvl hve hve2 hord hfu hfv wd hj hi0
          go_wp2_with (first | rw [hW6] | fail)
          clear hW6
          refine (HO2.out W6 (Grows.refl _)).mono ?_
          rintro e w7 ⟨rfl, hg7⟩
          obtain ⟨W7, hW7⟩ : ∃ W, w7.alloc (.cells #[.int .i64 v0, .int .i64 v1, .int .i64 v2] 34) = W := ⟨_, rfl⟩
          have H7 := Lib.hid (show Grows W6 W7 ∧ Whole W7 w7.heap.size 34 #[.int .i64 v0, .int .i64 v1, .int .i64 v2] from ⟨Grows.trans hg7 (hW7 ▸ grows_alloc _ _), by rw [← hW7]; exact Whole.made _ _ _⟩)
          clear hg7 hcy
          have q6 := H7.out.1.whole H6.out.2
          have e1 := q6.cell 1
          have e2 := q6.cell 2
          have f1 := H7.out.2.cell 1
          have f2 := H7.out.2.cell 2
          simp only [List.getElem?_toArray, List.getElem?_cons_zero, List.getElem?_cons_succ] at e1 e2 f1 f2
          clear q6
          have hnlt : ¬ dx < dy := by have := HOR.out; omega
          have HC1' := HC1
          have HC1 := Lib.hid (show ∀ w', Grows W7 w' → w'.cell? (ad.add i) = some (.int .i64 us) from fun w' h => HC1'.out w' (Grows.trans (Grows.trans H6.out.1 H7.out.1) h))
          have HC2' := HC2
          have HC2 := Lib.hid (show ∀ w', Grows W7 w' → w'.cell? (ad.add j) = some (.int .i64 vs) from fun w' h => HC2'.out w' (Grows.trans H7.out.1 h))
          by_cases hde : dx = dy
          · have HD := Lib.hid (And.intro hnlt hde)
            have HSS := Lib.hid (show ¬ us ≤ vs from by have := HOR.out.2 hde; omega)
            clear hde hnlt
            go_wp2_with (first | rw [hW7] | fail)
            clear hW7 e1 e2 f1 f2
            refine wp_region_facts (E := Grows) [valFact (.int .i64 dx), valFact (.int .i64 dy), valFact (.bool false), valFact (.bool false), valFact (.int .i64 dx), valFact (.int .i64 dy), valFact (.bool true), valFact (.bool true), valFact (.slice (some ad) k cw), valFact (.int .i64 (i : Int)), valFact (.int .i64 (j : Int)), valFact (.pointer (some (ad.add j))), valFact (.int .i64 vs), valFact (.slice (some ad) k cw), valFact (.int .i64 (i : Int)), valFact (.pointer (some (ad.add i))), valFact (.int .i64 us), valFact (.bool false), valFact (.bool false), valFact (.bool false)] (by kernel_rfl) (by kernel_rfl) (fun _ _ _ => Grows.trans) (grows_drew _) ?_
            refine f_val (.int .i64 dx) (by rfl) ?_ ?_
            · intro w' hC; clear hC; go_simp
            simp only [Act.put, List.setIfInBounds_toArray, List.set_cons_zero, List.set_cons_succ]
            refine f_val (.int .i64 dy) (by rfl) ?_ ?_
            · intro w' hC; clear hC; go_simp
            simp only [Act.put, List.setIfInBounds_toArray, List.set_cons_zero, List.set_cons_succ]
            refine f_val (.bool false) (by rfl) ?_ ?_
            · intro w' hC; have k0 := HD.out; clear hC; go_simp
            simp only [Act.put, List.setIfInBounds_toArray, List.set_cons_zero, List.set_cons_succ]
            refine f_val (.bool false) (by rfl) ?_ ?_
            · intro w' hC; clear hC; go_simp
            simp only [Act.put, List.setIfInBounds_toArray, List.set_cons_zero, List.set_cons_succ]
            refine f_val (.int .i64 dx) (by rfl) ?_ ?_
            · intro w' hC; clear hC; go_simp
            simp only [Act.put, List.setIfInBounds_toArray, List.set_cons_zero, List.set_cons_succ]
            refine f_val (.int .i64 dy) (by rfl) ?_ ?_
            · intro w' hC; clear hC; go_simp
            simp only [Act.put, List.setIfInBounds_toArray, List.set_cons_zero, List.set_cons_succ]
            refine f_val (.bool true) (by rfl) ?_ ?_
            · intro w' hC; have k0 := HD.out; clear hC; go_simp
            simp only [Act.put, List.setIfInBounds_toArray, List.set_cons_zero, List.set_cons_succ]
            refine f_val (.bool true) (by rfl) ?_ ?_
            · intro w' hC; clear hC; go_simp
            simp only [Act.put, List.setIfInBounds_toArray, List.set_cons_zero, List.set_cons_succ]
            refine f_val (.slice (some ad) k cw) (by rfl) ?_ ?_
            · intro w' hC; clear hC; go_simp
            simp only [Act.put, List.setIfInBounds_toArray, List.set_cons_zero, List.set_cons_succ]
            refine f_val (.int .i64 (i : Int)) (by rfl) ?_ ?_
            · intro w' hC; clear hC; go_simp
            simp only [Act.put, List.setIfInBounds_toArray, List.set_cons_zero, List.set_cons_succ]
            refine f_val (.int .i64 (j : Int)) (by rfl) ?_ ?_
            · intro w' hC; have k0 := HKJ.out; clear hC; go_simp
            simp only [Act.put, List.setIfInBounds_toArray, List.set_cons_zero, List.set_cons_succ]
            refine f_val (.pointer (some (ad.add j))) (by rfl) ?_ ?_
            · intro w' hC; have k0 := HKI.out; clear hC; go_simp
            simp only [Act.put, List.setIfInBounds_toArray, List.set_cons_zero, List.set_cons_succ]
            refine f_val (.int .i64 vs) (by rfl) ?_ ?_
            · intro w' hC; have q := HC2.out w' (hC); clear hC; go_simp
            simp only [Act.put, List.setIfInBounds_toArray, List.set_cons_zero, List.set_cons_succ]
            refine f_val (.slice (some ad) k cw) (by rfl) ?_ ?_
            · intro w' hC; clear hC; go_simp
            simp only [Act.put, List.setIfInBounds_toArray, List.set_cons_zero, List.set_cons_succ]
            refine f_val (.int .i64 (i : Int)) (by rfl) ?_ ?_
            · intro w' hC; clear hC; go_simp
            simp only [Act.put, List.setIfInBounds_toArray, List.set_cons_zero, List.set_cons_succ]
            refine f_val (.pointer (some (ad.add i))) (by rfl) ?_ ?_
            · intro w' hC; have k0 := HKI.out; clear hC; go_simp
            simp only [Act.put, List.setIfInBounds_toArray, List.set_cons_zero, List.set_cons_succ]
            refine f_val (.int .i64 us) (by rfl) ?_ ?_
            · intro w' hC; have q := HC1.out w' (hC); clear hC; go_simp
            simp only [Act.put, List.setIfInBounds_toArray, List.set_cons_zero, List.set_cons_succ]
            refine f_val (.bool false) (by rfl) ?_ ?_
            · intro w' hC; have k0 := HSS.out; clear hC; go_simp
            simp only [Act.put, List.setIfInBounds_toArray, List.set_cons_zero, List.set_cons_succ]
            refine f_val (.bool false) (by rfl) ?_ ?_
            · intro w' hC; clear hC; go_simp
            simp only [Act.put, List.setIfInBounds_toArray, List.set_cons_zero, List.set_cons_succ]
            refine f_val (.bool false) (by rfl) ?_ ?_
            · intro w' hC; clear hC; go_simp
            simp only [Act.put, List.setIfInBounds_toArray, List.set_cons_zero, List.set_cons_succ]
            refine wpF_end ?_
            intro w9 hC hks
            have HCw9 := Lib.hid hC
            clear hC hks
            go_wp2_with (fail)
            go_roundw
            case rel => exact ⟨i + 1, by have := HKI.out; omega, by go_num, Lib.hid (Grows.trans (Grows.trans HG.out (Grows.trans H6.out.1 H7.out.1)) HCw9.out)⟩
            case measure => have := HKI.out; simp [intOf]; omega
          · have HD := Lib.hid (And.intro hnlt hde)
            clear hde hnlt
            go_wp2_with (first | rw [hW7] | fail)
            clear hW7 e1 e2 f1 f2
            refine wp_region_facts (E := Grows) [valFact (.int .i64 dx), valFact (.int .i64 dy), valFact (.bool false), valFact (.bool false), valFact (.int .i64 dx), valFact (.int .i64 dy), valFact (.bool false), valFact (.bool false), valFact undef, valFact undef, valFact undef, valFact undef, valFact undef, valFact undef, valFact undef, valFact undef, valFact undef, valFact undef, valFact (.bool false), valFact (.bool false)] (by kernel_rfl) (by kernel_rfl) (fun _ _ _ => Grows.trans) (grows_drew _) ?_
            refine f_val (.int .i64 dx) (by rfl) ?_ ?_
            · intro w' hC; clear hC; go_simp
            simp only [Act.put, List.setIfInBounds_toArray, List.set_cons_zero, List.set_cons_succ]
            refine f_val (.int .i64 dy) (by rfl) ?_ ?_
            · intro w' hC; clear hC; go_simp
            simp only [Act.put, List.setIfInBounds_toArray, List.set_cons_zero, List.set_cons_succ]
            refine f_val (.bool false) (by rfl) ?_ ?_
            · intro w' hC; have k0 := HD.out; clear hC; go_simp
            simp only [Act.put, List.setIfInBounds_toArray, List.set_cons_zero, List.set_cons_succ]
            refine f_val (.bool false) (by rfl) ?_ ?_
            · intro w' hC; clear hC; go_simp
            simp only [Act.put, List.setIfInBounds_toArray, List.set_cons_zero, List.set_cons_succ]
            refine f_val (.int .i64 dx) (by rfl) ?_ ?_
            · intro w' hC; clear hC; go_simp
            simp only [Act.put, List.setIfInBounds_toArray, List.set_cons_zero, List.set_cons_succ]
            refine f_val (.int .i64 dy) (by rfl) ?_ ?_
            · intro w' hC; clear hC; go_simp
            simp only [Act.put, List.setIfInBounds_toArray, List.set_cons_zero, List.set_cons_succ]
            refine f_val (.bool false) (by rfl) ?_ ?_
            · intro w' hC; have k0 := HD.out; clear hC; go_simp
            simp only [Act.put, List.setIfInBounds_toArray, List.set_cons_zero, List.set_cons_succ]
            refine f_val (.bool false) (by rfl) ?_ ?_
            · intro w' hC; clear hC; go_simp
            simp only [Act.put, List.setIfInBounds_toArray, List.set_cons_zero, List.set_cons_succ]
            refine f_skip (by rfl) ?_
            simp only [Act.put, List.setIfInBounds_toArray, List.set_cons_zero, List.set_cons_succ]
            refine f_skip (by rfl) ?_
            simp only [Act.put, List.setIfInBounds_toArray, List.set_cons_zero, List.set_cons_succ]
            refine f_skip (by rfl) ?_
            simp only [Act.put, List.setIfInBounds_toArray, List.set_cons_zero, List.set_cons_succ]
            refine f_skip (by rfl) ?_
            simp only [Act.put, List.setIfInBounds_toArray, List.set_cons_zero, List.set_cons_succ]
            refine f_skip (by rfl) ?_
            simp only [Act.put, List.setIfInBounds_toArray, List.set_cons_zero, List.set_cons_succ]
            refine f_skip (by rfl) ?_
            simp only [Act.put, List.setIfInBounds_toArray, List.set_cons_zero, List.set_cons_succ]
            refine f_skip (by rfl) ?_
            simp only [Act.put, List.setIfInBounds_toArray, List.set_cons_zero, List.set_cons_succ]
            refine f_skip (by rfl) ?_
            simp only [Act.put, List.setIfInBounds_toArray, List.set_cons_zero, List.set_cons_succ]
            refine f_skip (by rfl) ?_
            simp only [Act.put, List.setIfInBounds_toArray, List.set_cons_zero, List.set_cons_succ]
            refine f_skip (by rfl) ?_
            simp only [Act.put, List.setIfInBounds_toArray, List.set_cons_zero, List.set_cons_succ]
            refine f_val (.bool false) (by rfl) ?_ ?_
            · intro w' hC; clear hC; go_simp
            simp only [Act.put, List.setIfInBounds_toArray, List.set_cons_zero, List.set_cons_succ]
            refine f_val (.bool false) (by rfl) ?_ ?_
            · intro w' hC; clear hC; go_simp
            simp only [Act.put, List.setIfInBounds_toArray, List.set_cons_zero, List.set_cons_succ]
            refine wpF_end ?_
            intro w9 hC hks
            have HCw9 := Lib.hid hC
            clear hC hks
            go_wp2_with (fail)
            go_roundw
            case rel => exact ⟨i + 1, by have := HKI.out; omega, by go_num, Lib.hid (Grows.trans (Grows.trans HG.out (Grows.trans H6.out.1 H7.out.1)) HCw9.out)⟩
            case measure => have := HKI.out; simp [intOf]; omega
        · obtain rfl : i = k := by omega
          have HAL := Lib.hid (all_use (HB5.out.1.grow HG.out) (by have := HB0.out.2.2; omega))
          go_wp2_with (fail)
          refine HAL.out.mono ?_
          rintro e w8 ⟨A8, c8, rfl, _, hg8⟩
          obtain ⟨m, hm⟩ : ∃ m, l.length = m := ⟨_, rfl⟩
          have hmi : m = i := by have := HW.out.2.2.2.1; omega
          rw [hm]
          subst hmi
          have H8 := Lib.hid hg8
          clear hg8 hm
          go_wp2_with (fail)
          go_ret
          exact ⟨rfl, Grows.trans HB5.out.2 (Grows.trans HG.out H8.out)⟩


set_option maxRecDepth 100000 in
theorem bookWorst_lifted (os : Os) (started : os.Started) (H : Type) (enc : TypeId × Value → H) :
    ReturnsInHanded {} Try.checked os 5 .any (Rows.bookWorstSpec.pre6 enc Try.prog Try.f5 Rows.bookWorstRow.domain false) (Rows.bookWorstSpec.post enc Try.prog Try.f5 false true false false) := by
  refine lift_law (C := Try.checked) H enc own started (by kernel_rfl) Try.func5
    (ChangeSpec.witness6 (enc := enc) (C := Try.checked) false ⟨#[], #[.slice none 0 0], []⟩ 16 (by kernel_rfl) (by kernel_rfl) (by kernel_rfl) (by kernel_rfl))
    laidOut (of_readable (by kernel_rfl)) rfl Try.underlying4 rfl (fun ds hd => ?_) (fun W base args ds p hval hA hsz => ?_)
  · match ds, hd with
    | [d1], _ => rfl
  · rw [Try.params5] at hA hval hsz
    obtain ⟨v0, vs0, d0, ds0, p0, q0, hargs, rfl, rfl, h0, r0⟩ := trodAll_cons hA
    obtain ⟨rfl, rfl, rfl⟩ := trodAll_nil r0
    obtain rfl : args = #[v0] := by cases args; simp_all
    obtain ⟨A0, n0, c0, xs0, rfl, hx0⟩ := open_ops12 (hval 0 22 v0 rfl rfl) h0
    exact bookWorst_law W A0 n0 c0 xs0 hx0

theorem bookWorst_over : Rows.bookWorstRow.holds Try.pinned (OpenSpec.ofChange Rows.bookWorstSpec) :=
  OpenClaim.holds_of_wide 5 Try.f5 rfl rfl rfl rfl rfl rfl rfl ⟨rfl, rfl, rfl, rfl, rfl⟩ rfl rfl rfl rfl rfl (by kernel_rfl) Try.func5 (by kernel_rfl)
    (of_decide_eq_true (by kernel_rfl)) (by unfold Func.isWrapper; first | (rw [if_pos (by decide +kernel)]; kernel_rfl) | (rw [if_neg (by decide +kernel)]; exact ⟨rfl, rfl⟩))
    (fun os started H enc _ => bookWorst_lifted os started H enc)
theorem bookWorst_holds : Rows.BookWorstSaid := bookWorst_over
end Go.Proofs.Ytlldcogkcjnejaa
