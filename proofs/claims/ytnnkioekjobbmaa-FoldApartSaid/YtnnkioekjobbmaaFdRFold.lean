/-
  The document's answer to fold: Fold.
-/
import Derived.Test.YtnnkioekjobbmaaFdRPut
import Derived.Test.YtnnkioekjobbmaaFdRight
import Derived.Test.YtnnkioekjobbmaaFdFold
namespace Go.Proofs.Ytnnkioekjobbmaa
open Go.RowKit
set_option linter.unusedVariables false
set_option linter.unusedSimpArgs false
attribute [local irreducible] wpF

section
variable {P : Program} {ops : Array Oper} {W : World} {Q : Act → World → Prop} {o : Oper} {rest : List Oper} {fs : List (Fact Grows)} {ks : Known} {a : Act}
theorem f_callF {F : Fact Grows} (f : FuncId) (args : Array Value) (hw : Region.wanted o (yielded ops a.tmps) = true) (h1 : ∀ w, Grows W w → (execOp a.eval o).run P w = .ok (.enter f args) w)
    (hc : ∀ w, Grows W w → Calls P f args w fun e w' => Grows w w' ∧ ∃ x, e = .returned (F.val x) ∧ F.R x w') (h2 : ∀ x, wpF P ops Grows W Q rest fs ((o.dst, F.R x) :: ks) (a.put o.dst (F.val x))) : wpF P ops Grows W Q (o :: rest) (F :: fs) ks a := by
  unfold wpF fStep
  rw [if_pos hw]
  refine ⟨fun w hW hk => ?_, h2⟩
  unfold gives
  rw [h1 w hW]
  exact hc w hW
end
def rowO (B n : Nat) (l : List Fp) : Fact Grows := ⟨Option Addr × Nat, (none, 0), fun q => .slice q.1 n q.2, fun q w => OwnPl w B q.1 n q.2 l, fun _ _ _ h g => owned_grow h g⟩
theorem putsL_append (i : Nat) : ∀ (a b : List Ht) (L : List (Nat × Ht)), putsL i L (a ++ b) = putsL i (putsL i L a) b
  | [], b, L => rfl
  | h :: r, b, L => by rw [List.cons_append, putsL, putsL, putsL_append i r b]
theorem foldF_append : ∀ (a b : List (List Ht)) (i : Nat) (L : List (Nat × Ht)), foldF i L (a ++ b) = foldF (i + a.length) (foldF i L a) b
  | [], b, i, L => rfl
  | l :: r, b, i, L => by
    rw [List.cons_append, foldF, foldF, foldF_append r b, List.length_cons]
    congr 1
    omega
theorem foldF_step {ls : List (List Ht)} {i : Nat} {l : List Ht} (h : ls[i]? = some l) : foldF 0 [] (ls.take (i + 1)) = putsL i (foldF 0 [] (ls.take i)) l := by
  have hi := (List.getElem?_eq_some_iff.1 h).1
  rw [List.take_add_one, h, foldF_append, List.length_take, Nat.zero_add, Nat.min_eq_left (Nat.le_of_lt hi)]
  rfl
theorem putsL_step {i k : Nat} {l : List Ht} {x : Ht} (h : l[k]? = some x) (L : List (Nat × Ht)) : putsL i L (l.take (k + 1)) = rput (putsL i L (l.take k)) (i, x) := by
  rw [List.take_add_one, h, putsL_append]
  rfl
theorem rput_seg (segs : List Int) (L : List (Nat × Ht)) (p : Nat × Ht) : rput (L.map (segF segs)) (segF segs p) = (rput L p).map (segF segs) := rput_map (fun i => segs.getD i 0) L p
set_option maxRecDepth 100000 in
set_option maxHeartbeats 8000000 in
theorem rfold_any (SA : Option Addr) (sn sc : Nat) (segs : List Int) (A : Option Addr) (N c : Nat) (sl : List Sl3) (ls : List (List Ht)) (w : World) (hsg : Ins w SA sn sc segs) (hx : Lls w A N c sl ls) (hN : N ≤ 1000) (hmany : manyL ls ≤ 100000) :
    Calls Try.prog 11 #[.slice SA sn sc, .slice A N c] w fun e w' => ∃ A' n' c', e = .returned (.tuple #[.slice A' n' c', .bool (okFold segs ls)]) ∧ OwnPl w' w.heap.size A' n' c' (foldAll segs ls) ∧ Grows w w' := by
  obtain ⟨r, hr⟩ : ∃ r, okFold segs ls = r := ⟨_, rfl⟩
  obtain ⟨L, hL⟩ : ∃ L, foldAll segs ls = L := ⟨_, rfl⟩
  rw [hr, hL]
  have HRL := Lib.hid (And.intro hr hL)
  have HX := Lib.hid (And.intro hsg (And.intro hx (And.intro hN hmany)))
  have HLN := Lib.hid (And.intro hsg.len hx.len)
  have hNN : N ≤ 1000 := hN
  clear hr hL hsg hx hN hmany
  by_cases hne : sn = N
  · obtain ⟨n, hnn⟩ : ∃ k, N = k := ⟨_, rfl⟩
    obtain rfl : N = sn := hne.symm
    go_enter Try.func11, Try.ntmps11
    go_wp2_with (fail)
    go_loopw [6] (fun vi wr => ∃ (j : Nat), j ≤ N ∧ vi = .int .i64 (j : Int) ∧ Hid (∀ i l, i < j → ls[i]? = some l → upB l = true) ∧ Hid (Grows w wr)) (fun vi _ => N - (intOf vi).toNat)
    case atStart => exact ⟨0, Nat.zero_le _, rfl, Lib.hid fun i l h => by omega, Lib.hid (Grows.refl _)⟩
    case round =>
      obtain ⟨j, hj, rfl, HJ, HG⟩ := hrel
      by_cases hlt : j < N
      · obtain ⟨ad, B, k, q, li, rfl, hli, hts, hbl, hcell⟩ := HX.out.2.1.at hlt
        have c0 := hcell wr HG.out
        have k0 : (0 : Int) ≤ (j : Int) := by omega
        have k1 : (j : Int) < (N : Int) := by omega
        obtain ⟨u, hu⟩ : ∃ b, upB li = b := ⟨_, rfl⟩
        have HRI := Lib.hid (show Calls Try.prog 16 #[.slice B k q] wr fun e w' => e = .returned (.bool u) ∧ Grows wr w' from by
          have h1 := right_any B k q li wr (hts.grow HG.out) (by have := hts.len; have := manyL_mem hli; have := HX.out.2.2.2; omega)
          rwa [hu] at h1)
        have HU := Lib.hid (And.intro hli hu)
        clear hcell hts hbl hli hu
        go_wp2_with (fail)
        refine HRI.out.mono ?_
        rintro e w2 ⟨rfl, hg2⟩
        have HG2 := Lib.hid (Grows.trans HG.out hg2)
        clear hg2 HRI
        cases u
        · go_wp2_with (fail)
          refine bodyPost_ret (results_tmp2 rfl _ _ _) rfl ?_
          have hf : okFold segs ls = false := by
            unfold okFold
            have : ls.all upB = false := by
              rw [List.all_eq_false]
              exact ⟨li, List.mem_of_getElem? HU.out.1, by rw [HU.out.2]; simp⟩
            rw [this, Bool.and_false]
          refine ⟨none, 0, 0, ?_, ?_, HG2.out⟩
          · rw [← HRL.out.1, hf]
            rfl
          · rw [← HRL.out.2]
            unfold foldAll
            rw [hf]
            exact ownPl_nil _ _
        · go_wp2_with (fail)
          go_roundw
          case rel => exact ⟨j + 1, by omega, by first | rfl | go_num, Lib.hid fun i l hi hl => by
            by_cases e : i = j
            · subst e
              have := HU.out.1
              rw [hl] at this
              injection this with this
              rw [this]
              exact HU.out.2
            · exact HJ.out i l (by omega) hl, HG2⟩
          case measure => simp [intOf]; omega
      · obtain rfl : N = j := by omega
        have hok : okFold segs ls = true := by
          unfold okFold
          rw [Bool.and_eq_true, decide_eq_true_eq, List.all_eq_true]
          exact ⟨HLN.out.1.trans HLN.out.2.symm, fun l hl => by
            obtain ⟨i, hi, rfl⟩ := List.mem_iff_getElem.1 hl
            exact HJ.out i _ (by have := HLN.out.2; omega) (List.getElem?_eq_getElem hi)⟩
        have HOK := Lib.hid (show r = true ∧ L = (foldP ls).map (segF segs) from by
          refine ⟨HRL.out.1.symm.trans hok, ?_⟩
          rw [← HRL.out.2]
          unfold foldAll
          rw [hok, if_pos rfl])
        have HGW := Lib.hid HG.out
        clear hok hlt hj HJ HG
        go_wp2_with (fail)
        go_loopw [7, 8, 9] (fun vo vi _ wr => ∃ (i nW : Nat) (AW : Option Addr) (cW : Nat), i ≤ N ∧ vi = .int .i64 (i : Int) ∧ vo = .slice AW nW cW ∧ Hid (OwnPl wr w.heap.size AW nW cW ((foldF 0 [] (ls.take i)).map (segF segs)) ∧ Grows w wr)) (fun _ vi _ _ => N - (intOf vi).toNat)
        case atStart => exact ⟨0, 0, none, 0, Nat.zero_le _, rfl, rfl, Lib.hid ⟨ownPl_nil _ _, HGW.out⟩⟩
        case round =>
          obtain ⟨i, nW, AW, cW, hi, rfl, rfl, HT⟩ := hrel
          by_cases hlti : i < N
          · obtain ⟨la, B, m, q, li, rfl, hli, hts, hbl, hcell⟩ := HX.out.2.1.at hlti
            obtain ⟨sa, sv, rfl, hsv, _, hsc⟩ := HX.out.1.at hlti
            have hml : m ≤ 100000 := by have := hts.len; have := manyL_mem hli; have := HX.out.2.2.2; omega
            have k0 : (0 : Int) ≤ (i : Int) := by omega
            have k1 : (i : Int) < (N : Int) := by omega
            have HC := Lib.hid (And.intro hts (And.intro hli (And.intro hcell (And.intro hsv hsc))))
            clear hts hli hcell hsv hsc hbl
            go_wp2_with (fail)
            go_loopw [7, 9] (fun vo vk wr => ∃ (k nW : Nat) (AW : Option Addr) (cW : Nat), k ≤ m ∧ vk = .int .i64 (k : Int) ∧ vo = .slice AW nW cW ∧ Hid (OwnPl wr w.heap.size AW nW cW ((putsL i (foldF 0 [] (ls.take i)) (li.take k)).map (segF segs)) ∧ Grows w wr)) (fun _ vk _ => m - (intOf vk).toNat)
            case atStart => exact ⟨0, nW, AW, cW, Nat.zero_le _, rfl, rfl, Lib.hid HT.out⟩
            case round =>
              clear HT
              obtain ⟨k, nW, AW, cW, hk, rfl, rfl, HT⟩ := hrel
              have c0 := HC.out.2.2.1 wr HT.out.2
              by_cases hltk : k < m
              · obtain ⟨ad, ⟨q0, q1, q2, q3⟩, rfl, hxk, _, hxc⟩ := HC.out.1.at hltk
                dsimp only at hxc
                have k2 : (0 : Int) ≤ (k : Int) := by omega
                have k3 : (k : Int) < (m : Int) := by omega
                have HI := Lib.hid (And.intro k0 (And.intro k1 (And.intro k2 k3)))
                have HSV := Lib.hid (fun w' (hg : Grows wr w') => HC.out.2.2.2.2 w' (Grows.trans HT.out.2 hg))
                have HSL := Lib.hid (fun w' (hg : Grows wr w') => HC.out.2.2.1 w' (Grows.trans HT.out.2 hg))
                have HHC := Lib.hid (fun w' (hg : Grows wr w') => hxc w' (Grows.trans HT.out.2 hg))
                obtain ⟨LN, hLN⟩ : ∃ l, (putsL i (foldF 0 [] (ls.take i)) (li.take (k + 1))).map (segF segs) = l := ⟨_, rfl⟩
                obtain ⟨nn, hnn⟩ : ∃ k, LN.length = k := ⟨_, rfl⟩
                have hstep : rput ((putsL i (foldF 0 [] (ls.take i)) (li.take k)).map (segF segs)) (sv, ⟨q0, q1, q2, q3⟩) = LN := by
                  have e : ((sv, ⟨q0, q1, q2, q3⟩) : Fp) = segF segs (i, ⟨q0, q1, q2, q3⟩) := by
                    unfold segF
                    dsimp only
                    rw [List.getD_eq_getElem?_getD, HC.out.2.2.2.1]
                    rfl
                  rw [e, rput_seg, ← putsL_step hxk, hLN]
                have hnW : nW < 900000 := by
                  have h1 := HT.out.1.len
                  rw [List.length_map] at h1
                  have h2 := putsL_len i (li.take k) (foldF 0 [] (ls.take i))
                  have h3 := foldF_len (ls.take i) 0 []
                  have h4 := manyL_le ls i
                  have h5 := HX.out.2.2.2
                  have h6 : (li.take k).length ≤ k := List.length_take_le _ _
                  simp at h3
                  omega
                have HPU := Lib.hid (show ∀ w', Grows wr w' → Calls Try.prog 20 #[.slice AW nW cW, .agg #[.int .i64 sv, .int .i64 q0, .string ⟨q1.toArray⟩, .int .i64 q2, .int .i64 q3]] w' fun e w'' => Grows w' w'' ∧ ∃ x : Option Addr × Nat, e = .returned (.slice x.1 nn x.2) ∧ OwnPl w'' w.heap.size x.1 nn x.2 LN from fun w' hg => (rput_any (w := w') ((OwnPl.rs HT.out.1).grow hg) hnW (sv, ⟨q0, q1, q2, q3⟩)).mono fun e w'' ⟨A3, n3, c3, h2, h3, h4⟩ => by
                  rw [hstep] at h3
                  have hl3 := h3.len
                  rw [hnn] at hl3
                  subst hl3
                  exact ⟨h4, (A3, c3), h2, owned_from h3 (Nat.le_trans HT.out.2.size hg.size)⟩)
                have HLN2 := Lib.hid hLN
                clear hxk hxc hLN hnn hstep hnW k0 k1
                go_wp2_with (fail)
                refine wp_region_facts_tail (E := Grows) 14 [valFact (.slice AW nW cW), valFact (.slice (some sa) N sc), valFact (.int .i64 (i : Int)), valFact (.pointer (some (sa.add i))), valFact (.int .i64 sv), valFact (.slice (some la) N c), valFact (.int .i64 (i : Int)), valFact (.pointer (some (la.add i))), valFact (.slice (some ad) m q), valFact (.int .i64 (k : Int)), valFact (.pointer (some (ad.add (k * 4)))), valFact (.agg #[.int .i64 q0, .string ⟨q1.toArray⟩, .int .i64 q2, .int .i64 q3]), valFact (.agg #[.int .i64 sv, .int .i64 q0, .string ⟨q1.toArray⟩, .int .i64 q2, .int .i64 q3]), rowO w.heap.size nn LN] mixed (by kernel_rfl) (fun _ _ _ => Grows.trans) (grows_drew _) ?_
                simp only [List.take_succ_cons, List.take_zero, List.drop_succ_cons, List.drop_zero]
                refine f_val (.slice AW nW cW) (by rfl) ?_ ?_
                · intro w' hC; clear hC; go_simp
                simp only [Act.put, List.setIfInBounds_toArray, List.set_cons_zero, List.set_cons_succ]
                refine f_val (.slice (some sa) N sc) (by rfl) ?_ ?_
                · intro w' hC; clear hC; go_simp
                simp only [Act.put, List.setIfInBounds_toArray, List.set_cons_zero, List.set_cons_succ]
                refine f_val (.int .i64 (i : Int)) (by rfl) ?_ ?_
                · intro w' hC; clear hC; go_simp
                simp only [Act.put, List.setIfInBounds_toArray, List.set_cons_zero, List.set_cons_succ]
                refine f_val (.pointer (some (sa.add i))) (by rfl) ?_ ?_
                · intro w' hC; have k0 := HI.out; clear hC; go_simp
                simp only [Act.put, List.setIfInBounds_toArray, List.set_cons_zero, List.set_cons_succ]
                refine f_val (.int .i64 sv) (by rfl) ?_ ?_
                · intro w' hC; have z := HSV.out w' hC; clear hC; go_simp
                simp only [Act.put, List.setIfInBounds_toArray, List.set_cons_zero, List.set_cons_succ]
                refine f_val (.slice (some la) N c) (by rfl) ?_ ?_
                · intro w' hC; clear hC; go_simp
                simp only [Act.put, List.setIfInBounds_toArray, List.set_cons_zero, List.set_cons_succ]
                refine f_val (.int .i64 (i : Int)) (by rfl) ?_ ?_
                · intro w' hC; clear hC; go_simp
                simp only [Act.put, List.setIfInBounds_toArray, List.set_cons_zero, List.set_cons_succ]
                refine f_val (.pointer (some (la.add i))) (by rfl) ?_ ?_
                · intro w' hC; have k0 := HI.out; clear hC; go_simp
                simp only [Act.put, List.setIfInBounds_toArray, List.set_cons_zero, List.set_cons_succ]
                refine f_val (.slice (some ad) m q) (by rfl) ?_ ?_
                · intro w' hC; have z := HSL.out w' hC; clear hC; go_simp
                simp only [Act.put, List.setIfInBounds_toArray, List.set_cons_zero, List.set_cons_succ]
                refine f_val (.int .i64 (k : Int)) (by rfl) ?_ ?_
                · intro w' hC; clear hC; go_simp
                simp only [Act.put, List.setIfInBounds_toArray, List.set_cons_zero, List.set_cons_succ]
                refine f_val (.pointer (some (ad.add (k * 4)))) (by rfl) ?_ ?_
                · intro w' hC; have k0 := HI.out; clear hC; go_simp
                simp only [Act.put, List.setIfInBounds_toArray, List.set_cons_zero, List.set_cons_succ]
                refine f_val (.agg #[.int .i64 q0, .string ⟨q1.toArray⟩, .int .i64 q2, .int .i64 q3]) (by rfl) ?_ ?_
                · intro w' hC; obtain ⟨z0, z1, z2, z3⟩ := HHC.out w' hC; clear hC; go_simp
                simp only [Act.put, List.setIfInBounds_toArray, List.set_cons_zero, List.set_cons_succ]
                refine f_val (.agg #[.int .i64 sv, .int .i64 q0, .string ⟨q1.toArray⟩, .int .i64 q2, .int .i64 q3]) (by rfl) ?_ ?_
                · intro w' hC; clear hC; go_simp
                simp only [Act.put, List.setIfInBounds_toArray, List.set_cons_zero, List.set_cons_succ]
                refine f_callF 20 #[.slice AW nW cW, .agg #[.int .i64 sv, .int .i64 q0, .string ⟨q1.toArray⟩, .int .i64 q2, .int .i64 q3]] (by rfl) (by intro w' hC; clear hC; go_simp) ?_ ?_
                · intro w' hC; exact HPU.out w' hC
                rintro ⟨A8, c8⟩
                dsimp only [rowO]
                simp only [Act.put, List.setIfInBounds_toArray, List.set_cons_zero, List.set_cons_succ]
                refine wpF_end ?_
                intro w4 hC hks
                have HCw4 := Lib.hid hC
                have HL4 := Lib.hid (Known.at hks 0 rfl)
                clear hC hks
                have H4 := Lib.hid (show OwnPl w4 w.heap.size A8 nn c8 LN from HL4.out)
                clear HPU HL4
                go_wp2_with (fail)
                go_roundw
                case rel => exact ⟨k + 1, nn, A8, c8, by omega, by first | rfl | go_num, rfl, Lib.hid ⟨by rw [HLN2.out]; exact H4.out, Grows.trans HT.out.2 HCw4.out⟩⟩
                case measure => simp [intOf]; omega
              · obtain rfl : m = k := by omega
                have HN := Lib.hid (show (putsL i (foldF 0 [] (ls.take i)) (li.take m)).map (segF segs) = (foldF 0 [] (ls.take (i + 1))).map (segF segs) from by
                  rw [List.take_of_length_le (l := li) (by have := HC.out.1.len; omega), foldF_step HC.out.2.1])
                go_wp2_with (fail)
                go_roundw
                case rel => exact ⟨i + 1, nW, AW, cW, by omega, by first | rfl | go_num, rfl, Lib.hid ⟨by rw [← HN.out]; exact HT.out.1, HT.out.2⟩⟩
                case measure => simp [intOf]; omega
          · obtain rfl : N = i := by omega
            go_wp2_with (fail)
            refine bodyPost_ret (results_tmp2 rfl _ _ _) rfl ?_
            refine ⟨AW, nW, cW, by rw [HOK.out.1]; rfl, ?_, HT.out.2⟩
            have h1 := HT.out.1
            rw [List.take_of_length_le (by have := HLN.out; omega)] at h1
            rw [HOK.out.2]
            exact h1
  · have hok : okFold segs ls = false := by
      unfold okFold
      rw [decide_eq_false (by have := HLN.out; omega), Bool.false_and]
    have HF := Lib.hid (show r = false ∧ L = [] from ⟨HRL.out.1.symm.trans hok, by rw [← HRL.out.2]; unfold foldAll; rw [hok]; rfl⟩)
    clear hok
    go_enter Try.func11, Try.ntmps11
    go_wp2_with (fail)
    refine bodyPost_ret (results_tmp2 rfl _ _ _) rfl ?_
    exact ⟨none, 0, 0, by rw [HF.out.1]; rfl, by rw [HF.out.2]; exact ownPl_nil _ _, Grows.refl _⟩
end Go.Proofs.Ytnnkioekjobbmaa
