/-
  Statement FoldSame: a list folded with itself, or with none, is itself, and what is live is all but the tombs. Every list of hints, and every number, no condition.
-/
import Derived.Test.YtnnkioekjobbmaaFdRep
import Derived.Test.YtnnkioekjobbmaaFdGreat
import Derived.Test.YtnnkioekjobbmaaFdIn
import Derived.Test.YtnnkioekjobbmaaFdRight
import Derived.Test.YtnnkioekjobbmaaFdSame
import Derived.ProofKit
import Derived.ChangeOld
namespace Go.Proofs.Ytnnkioekjobbmaa
open Go.ChangeShapes Go.WideShapes Go.ChangeAt Go.RowKit
set_option linter.unusedSimpArgs false
set_option linter.unusedVariables false
attribute [local irreducible] wpF
set_option maxRecDepth 100000 in
set_option maxHeartbeats 8000000 in
theorem foldSame_law (w : World) (A : Option Addr) (N c : Nat) (l : List Ht) (hx : Hts w A N c l) (hN : N ≤ 4000000000000) (s : Int) (hs : 0 ≤ s ∧ s < 256) :
    Calls Try.prog 6 #[.slice A N c, .int .u8 s] w fun e w' => e = .returned (.bool true) ∧ Below w.heap.size w w' := by
  obtain ⟨S, rfl⟩ := Int.eq_ofNat_of_zero_le hs.1
  have HX := Lib.hid (And.intro hx (And.intro hN hx.len))
  have HSS := Lib.hid (show S < 256 from by omega)
  clear hx hN hs
  go_enter Try.func6, Try.ntmps6
  go_wp2_with (fail)
  refine (head14_any w).mono ?_
  rintro e w1 ⟨rfl, hg1⟩
  have HG1 := Lib.hid hg1
  have hg0 := grows_alloc w1 (.cells #[.slice A N c] 36)
  have hm0 := Whole.made w1 36 #[.slice A N c]
  obtain ⟨V0, hV0⟩ : ∃ V, w1.alloc (.cells #[.slice A N c] 36) = V := ⟨_, rfl⟩
  rw [hV0] at hg0 hm0
  obtain ⟨b0, hb0⟩ : ∃ b, w1.heap.size = b := ⟨_, rfl⟩
  rw [hb0] at hm0
  have HGT := Lib.hid (great_any (some ⟨b0, 0, none⟩) 1 1 [(A, N, c)] [l] V0 (lls_lit hm0 rfl rfl (fun i s' l' h1 h2 => by
    match i with
    | 0 => (simp at h1 h2; subst h1 h2; exact HX.out.1.grow (Grows.trans hg1 hg0))
    | i + 1 => simp at h1)) (by omega) (fun l' hl => by rw [List.mem_singleton.1 hl]; have := HX.out.2; omega))
  have HG0 := Lib.hid (Grows.trans hg1 hg0)
  clear hg1 hg0 hm0
  go_wp2_with (first | rw [hV0] | fail)
  clear hV0
  refine HGT.out.mono ?_
  rintro e w2 ⟨g, rfl, hsm, hg2⟩
  have HG2 := Lib.hid (Grows.trans HG0.out hg2)
  clear hg2 HGT
  cases g
  rotate_left
  · clear hsm
    go_wp2_with (fail)
    go_ret
    exact ⟨rfl, HG2.out⟩
  have hN9 : N ≤ 9000 := by
    have h1 := (hsm rfl).2
    have h2 := HX.out.2.2
    simp only [manyL, List.map_cons, List.map_nil, List.sum_cons, List.sum_nil] at h1
    omega
  clear hsm
  obtain ⟨r, hr⟩ : ∃ r, S % 5 = r := ⟨_, rfl⟩
  have hr4 : r ≤ 4 := by omega
  have hmod : (S : Int).tmod 5 = (r : Int) := tmod_natF S 5 r hr
  have hw8 : IntKind.u8.wrap (r : Int) = (r : Int) := IntWalk.u8_in _ (by omega)
  have HRM := Lib.hid (And.intro (show ∀ x : Int, x = (S : Int) → x.tmod 5 = (r : Int) from fun x e => e ▸ hmod) (show ∀ k : IntKind, k = .u8 → k.wrap (r : Int) = (r : Int) from fun k e => e ▸ hw8))
  clear hmod hw8 hr
  obtain ⟨u, hu⟩ : ∃ u, upB l = u := ⟨_, rfl⟩
  have HU := Lib.hid hu
  go_wp2_with (fail)
  go_loopw [6, 7, 8] (fun vs vl vi wr => ∃ (i : Nat) (AS : Option Addr) (cs : Nat) (AL : Option Addr) (cl : Nat), i ≤ r + 1 ∧ vi = .int .i64 (i : Int) ∧ vs = .slice AS i cs ∧ vl = .slice AL i cl ∧ Hid (OwnIn wr w.heap.size AS i cs (numsL i) ∧ OwnLl wr w.heap.size AL i cl (repL i (A, N, c)) ∧ Grows w wr)) (fun _ _ vi _ => r + 1 - (intOf vi).toNat)
  case atStart => exact ⟨0, none, 0, none, 0, Nat.zero_le _, rfl, rfl, rfl, Lib.hid ⟨World.ownsRow_nil _ _ _ _, World.ownsRow_nil _ _ _ _, HG2.out⟩⟩
  case round =>
    obtain ⟨i, AS, cs, AL, cl, hi, rfl, rfl, rfl, HT⟩ := hrel
    obtain ⟨r1, hr1⟩ : ∃ k, r + 1 = k := ⟨_, rfl⟩
    have e1 : 1 + (r : Int) = (r1 : Int) := by omega
    by_cases hlt : i < r1
    · have hg1 := grows_alloc wr (.cells #[.int .i64 (i : Int)] 3)
      have hm1 := Whole.made wr 3 #[.int .i64 (i : Int)]
      obtain ⟨V1, hV1⟩ : ∃ V, wr.alloc (.cells #[.int .i64 (i : Int)] 3) = V := ⟨_, rfl⟩
      rw [hV1] at hg1 hm1
      obtain ⟨b1a, hb1a⟩ : ∃ b, wr.heap.size = b := ⟨_, rfl⟩
      rw [hb1a] at hm1
      have hOW := owned_grow HT.out.1 hg1
      have hOL := owned_grow HT.out.2.1 hg1
      obtain ⟨A', c', V2, hrun, hown, hgb⟩ := app_in (ty := 22) hOW (i : Int) hm1 (by omega) (Nat.le_trans HT.out.2.2.size hg1.size)
      have hOL2 := own_beside hOL hOW (by decide) hgb
      have hgw := ownP_grows (Grows.trans HT.out.2.2 hg1) (Nat.le_refl _) hOW hgb
      have HRUN := Lib.hid hrun
      have hg3 := grows_alloc V2 (.cells #[.slice A N c] 36)
      have hm3 := Whole.made V2 36 #[.slice A N c]
      obtain ⟨V3, hV3⟩ : ∃ V, V2.alloc (.cells #[.slice A N c] 36) = V := ⟨_, rfl⟩
      rw [hV3] at hg3 hm3
      obtain ⟨b3a, hb3a⟩ : ∃ b, V2.heap.size = b := ⟨_, rfl⟩
      rw [hb3a] at hm3
      have hOL3 := owned_grow hOL2 hg3
      have hOI3 := owned_grow hown hg3
      obtain ⟨A4, c4, V4, hrun4, hown4, hgb4⟩ := app_ll (ty := 23) hOL3 (A, N, c) hm3 (by omega) (Nat.le_trans hgw.size hg3.size)
      have hOI4 := own_beside hOI3 hOL3 (by decide) hgb4
      have hgw4 := ownP_grows (Grows.trans hgw hg3) (Nat.le_refl _) hOL3 hgb4
      have HRUN4 := Lib.hid hrun4
      have HN := Lib.hid (And.intro hOI4 (And.intro hown4 hgw4))
      have k1 : (i : Int) < (r1 : Int) := by omega
      have HR1 := Lib.hid hr1
      have hr5 : r1 ≤ 5 := by omega
      clear hg1 hm1 hrun hown hgb hOW hOL hOL2 hgw hg3 hm3 hOL3 hOI3 hrun4 hown4 hgb4 hOI4 hgw4 hr1
      obtain ⟨m1, m2⟩ := HRM.out
      go_wp2_with (first
        | rw [hV1]
        | rw [hV3]
        | (at_builtin; refine list_execF rfl (exec_appF rfl rfl rfl HRUN.out) ?_; simp only [Act.put, List.setIfInBounds_toArray, List.set_cons_zero, List.set_cons_succ])
        | (at_builtin; refine list_execF rfl (exec_appF rfl rfl rfl HRUN4.out) ?_; simp only [Act.put, List.setIfInBounds_toArray, List.set_cons_zero, List.set_cons_succ])
        | fail)
      go_roundw
      case rel => clear m1 m2; exact ⟨i + 1, A', c', A4, c4, by have := HR1.out; omega, by first | rfl | go_num, rfl, rfl, Lib.hid ⟨by rw [numsL_succ]; exact HN.out.1, by rw [repL_succ]; exact HN.out.2.1, HN.out.2.2⟩⟩
      case measure => (clear m1 m2; have := HR1.out; simp [intOf]; omega)
    · obtain rfl : r1 = i := by omega
      subst hr1
      have HF := Lib.hid (fold_any AS (r + 1) cs (numsL (r + 1)) AL (r + 1) cl (repL (r + 1) (A, N, c)) (repL (r + 1) l) wr HT.out.1.ins (lls_rep HT.out.2.1.rs (HX.out.1.grow HT.out.2.2)) (by omega) (by rw [manyL_rep]; have := HX.out.2.2; rw [this]; exact Nat.le_trans (Nat.mul_le_mul (show r + 1 ≤ 5 by omega) hN9) (by omega)))
      rw [ok_rep r l (numsL_len _), hu] at HF
      have hfa : u = true → foldAll (numsL (r + 1)) (repL (r + 1) l) = l.map fun x => ((r : Int), x) := fun e => rep_all (numsL_len _) (num_at r) (by rw [hu, e])
      have hfl := foldAll_len (numsL (r + 1)) (repL (r + 1) l)
      obtain ⟨L1, hL1⟩ : ∃ L, foldAll (numsL (r + 1)) (repL (r + 1) l) = L := ⟨_, rfl⟩
      rw [hL1] at HF hfa hfl
      have HFA := Lib.hid hfa
      clear hfa hfl hL1 e1 hlt hi
      have e1 : 1 + (r : Int) = ((r + 1 : Nat) : Int) := by omega
      have e2 : ¬ (((r + 1 : Nat) : Int) < ((r + 1 : Nat) : Int)) := by omega
      obtain ⟨R1, hR1⟩ : ∃ k, r + 1 = k := ⟨_, rfl⟩
      rw [hR1] at e1 e2 HF HT ⊢
      obtain ⟨m1, m2⟩ := HRM.out
      go_wp2_with (fail)
      clear m1 m2
      refine HF.out.mono ?_
      rintro e w3 ⟨A1, n1, c1, rfl, o1, g3⟩
      clear HF
      have hIN3 := owned_grow HT.out.1 g3
      have hLL3 := owned_grow HT.out.2.1 g3
      have hW3 : Grows w w3 := Grows.trans HT.out.2.2 g3
      have o1 := owned_from o1 (Nat.zero_le _)
      have hg5 := grows_alloc w3 (.cells #[.int .i64 99] 3)
      have hm5 := Whole.made w3 3 #[.int .i64 99]
      obtain ⟨V5, hV5⟩ : ∃ V, w3.alloc (.cells #[.int .i64 99] 3) = V := ⟨_, rfl⟩
      rw [hV5] at hg5 hm5
      obtain ⟨b5a, hb5a⟩ : ∃ b, w3.heap.size = b := ⟨_, rfl⟩
      rw [hb5a] at hm5
      have hOW := owned_grow hIN3 hg5
      obtain ⟨A6, c6, V6, hrun, hown, hgb⟩ := app_in (ty := 22) hOW 99 hm5 (by omega) (Nat.le_trans hW3.size hg5.size)
      have hL6 := own_beside (owned_grow hLL3 hg5) hOW (by decide) hgb
      have o6 := own_beside (owned_grow o1 hg5) hOW (by decide) hgb
      have hgw := ownP_grows (Grows.trans hW3 hg5) (Nat.le_refl _) hOW hgb
      have HRUN := Lib.hid hrun
      have hg7 := grows_alloc V6 (.cells #[.slice none 0 0] 36)
      have hm7 := Whole.made V6 36 #[.slice none 0 0]
      obtain ⟨V7, hV7⟩ : ∃ V, V6.alloc (.cells #[.slice none 0 0] 36) = V := ⟨_, rfl⟩
      rw [hV7] at hg7 hm7
      obtain ⟨b7a, hb7a⟩ : ∃ b, V6.heap.size = b := ⟨_, rfl⟩
      rw [hb7a] at hm7
      have hL7 := owned_grow hL6 hg7
      have hI7 := owned_grow hown hg7
      obtain ⟨A8, c8, V8, hrun8, hown8, hgb8⟩ := app_ll (ty := 23) hL7 (none, 0, 0) hm7 (by omega) (Nat.le_trans hgw.size hg7.size)
      have hI8 := own_beside hI7 hL7 (by decide) hgb8
      have o8 := own_beside (owned_grow o6 hg7) hL7 (by decide) hgb8
      have hgw8 := ownP_grows (Grows.trans hgw hg7) (Nat.le_refl _) hL7 hgb8
      have HRUN8 := Lib.hid hrun8
      subst hR1
      have HF := Lib.hid (fold_any A6 (r + 1 + 1) c6 (numsL (r + 1) ++ [99]) A8 (r + 1 + 1) c8 (repL (r + 1) (A, N, c) ++ [(none, 0, 0)]) (repL (r + 1) l ++ [[]]) V8 (OwnIn.ins hI8) (lls_rep2 (OwnLl.rs hown8) (HX.out.1.grow hgw8)) (by omega) (by rw [manyL_snoc, manyL_rep]; have := HX.out.2.2; rw [this]; exact Nat.le_trans (Nat.mul_le_mul (show r + 1 ≤ 5 by omega) hN9) (by omega)))
      have hlen2 : (numsL (r + 1) ++ [(99 : Int)]).length = r + 2 := by rw [List.length_append, numsL_len]; rfl
      rw [ok_rep2 r l hlen2, hu] at HF
      have hfb : u = true → foldAll (numsL (r + 1) ++ [99]) (repL (r + 1) l ++ [[]]) = l.map fun x => ((r : Int), x) := fun e => rep_all2 hlen2 (num_at2 r 99) (by rw [hu, e])
      obtain ⟨L2, hL2⟩ : ∃ L, foldAll (numsL (r + 1) ++ [99]) (repL (r + 1) l ++ [[]]) = L := ⟨_, rfl⟩
      rw [hL2] at HF hfb
      have HFB := Lib.hid hfb
      obtain ⟨R1, hR1⟩ : ∃ k, r + 1 = k := ⟨_, rfl⟩
      obtain ⟨R2, hR2⟩ : ∃ k, R1 + 1 = k := ⟨_, rfl⟩
      rw [hR1, hR2] at HF
      rw [hR1] at HRUN HRUN8
      rw [hR2] at HRUN HRUN8
      have H8 := Lib.hid (And.intro o8 hgw8)
      clear hIN3 hLL3 hW3 o1 hg5 hm5 hOW hrun hown hgb hL6 o6 hgw hg7 hm7 hL7 hI7 hrun8 hown8 hgb8 hI8 o8 hgw8 hlen2 hfb hL2 g3
      go_wp2_with (first
        | rw [hV5]
        | rw [hV7]
        | (at_builtin; refine list_execF rfl (exec_appF rfl rfl rfl HRUN.out) ?_; simp only [Act.put, List.setIfInBounds_toArray, List.set_cons_zero, List.set_cons_succ])
        | (at_builtin; refine list_execF rfl (exec_appF rfl rfl rfl HRUN8.out) ?_; simp only [Act.put, List.setIfInBounds_toArray, List.set_cons_zero, List.set_cons_succ])
        | fail)
      refine HF.out.mono ?_
      rintro e w9 ⟨A2, n2, c2, rfl, o2, g9⟩
      have H9 := Lib.hid (And.intro ((OwnPl.rs H8.out.1).grow g9) (And.intro o2.rs (Grows.trans H8.out.2 g9)))
      have HRT := Lib.hid (right_any A N c l w9 (HX.out.1.grow H9.out.2.2) (by omega))
      rw [hu] at HRT
      clear o2 g9 HF e1 e2 hV5 hV7 hu
      cases u
      · go_wp2_with (fail)
        refine HRT.out.mono ?_
        rintro e w10 ⟨rfl, g10⟩
        have HW10 := Lib.hid (Grows.trans H9.out.2.2 g10)
        clear g10 HRT
        go_wp2_with (fail)
        go_ret
        exact ⟨rfl, HW10.out⟩
      have H1 := Lib.hid (HFA.out rfl)
      have H2 := Lib.hid (HFB.out rfl)
      clear HFA HFB
      go_wp2_with (fail)
      refine HRT.out.mono ?_
      rintro e w10 ⟨rfl, g10⟩
      have HA := Lib.hid (H9.out.1.grow g10)
      have HB := Lib.hid (H9.out.2.1.grow g10)
      have HW10 := Lib.hid (Grows.trans H9.out.2.2 g10)
      clear g10 HRT
      have hn : n1 = N := by
        have h1 := HA.out.len
        rw [H1.out, List.length_map, HX.out.2.2] at h1
        exact h1.symm
      subst hn
      have HLV := Lib.hid (live_any w10 HA.out (by omega))
      go_wp2_with (fail)
      refine HLV.out.mono ?_
      rintro e w11 ⟨A3, n3, c3, rfl, o3, g11⟩
      have H11 := Lib.hid (And.intro o3 g11)
      clear o3 g11 HLV
      go_wp2_with (fail)
      go_loopw [14, 15] (fun vt vi wr => ∃ (i t : Nat), i ≤ n1 ∧ t ≤ i ∧ vi = .int .i64 (i : Int) ∧ vt = .int .i64 (t : Int) ∧ Hid (t + (liveP (L1.take i)).length = i ∧ Grows w11 wr)) (fun _ vi _ => n1 - (intOf vi).toNat)
      case atStart => exact ⟨0, 0, Nat.zero_le _, Nat.le_refl _, rfl, rfl, Lib.hid ⟨rfl, Grows.refl _⟩⟩
      case round =>
        obtain ⟨i, t, hi, ht, rfl, rfl, HG⟩ := hrel
        by_cases hlt : i < n1
        · obtain ⟨ad, ⟨av, ⟨p0, p1, p2, p3⟩⟩, rfl, hpa, _, hca⟩ := Pls.at HA.out hlt
          obtain ⟨bd, ⟨q0, q1, q2, q3⟩, rfl, hpb, _, hcb⟩ := Hts.at HX.out.1 hlt
          have hst := live_step hpa
          obtain ⟨ea1, ea2⟩ : (r : Int) = av ∧ (⟨q0, q1, q2, q3⟩ : Ht) = ⟨p0, p1, p2, p3⟩ := by
            rw [H1.out, List.getElem?_map, hpb] at hpa
            injection hpa with hpa
            exact Prod.mk.inj hpa
          injection ea2 with e0 e1 e2 e3
          subst e0 e1 e2 e3
          subst ea1
          dsimp only at hca hcb hst
          have k0 : (0 : Int) ≤ (i : Int) := by omega
          have k1 : (i : Int) < (n1 : Int) := by omega
          have HI := Lib.hid (And.intro k0 k1)
          have HAI := Lib.hid (fun w' (hg : Grows wr w') => hca w' (Grows.trans H11.out.2 (Grows.trans HG.out.2 hg)))
          have HBI := Lib.hid (fun w' (hg : Grows wr w') => hcb w' (Grows.trans HW10.out (Grows.trans H11.out.2 (Grows.trans HG.out.2 hg))))
          have HST := Lib.hid hst
          clear hpa hca hpb hcb hst
          by_cases h4 : q0 = 4
          · subst h4
            go_wp2_with (fail)
            refine wp_region_facts (E := Grows) [valFact (.slice (some ad) n1 c1), valFact (.int .i64 (i : Int)), valFact (.pointer (some (ad.add (i * 5)))), valFact (.pointer (some (ad.add (i * 5)))), valFact (.int .i64 (r : Int)), valFact (.int .u8 (S : Int)), valFact (.int .u8 (r : Int)), valFact (.int .i64 (r : Int)), valFact (.bool false), valFact (.bool false), valFact (.slice (some ad) n1 c1), valFact (.int .i64 (i : Int)), valFact (.pointer (some (ad.add (i * 5)))), valFact (.pointer (some { block := (ad.add (i * 5)).block, off := (ad.add (i * 5)).off + 1 })), valFact (.agg #[.int .i64 4, .string ⟨q1.toArray⟩, .int .i64 q2, .int .i64 q3]), valFact (.slice (some bd) n1 c), valFact (.int .i64 (i : Int)), valFact (.pointer (some (bd.add (i * 4)))), valFact (.agg #[.int .i64 4, .string ⟨q1.toArray⟩, .int .i64 q2, .int .i64 q3]), valFact (.bool false), valFact (.bool false)] (by kernel_rfl) (by kernel_rfl) (fun _ _ _ => Grows.trans) (grows_drew _) ?_
            refine f_val (.slice (some ad) n1 c1) (by rfl) ?_ ?_
            · intro w' hC; clear hC; go_simp
            simp only [Act.put, List.setIfInBounds_toArray, List.set_cons_zero, List.set_cons_succ]
            refine f_val (.int .i64 (i : Int)) (by rfl) ?_ ?_
            · intro w' hC; clear hC; go_simp
            simp only [Act.put, List.setIfInBounds_toArray, List.set_cons_zero, List.set_cons_succ]
            refine f_val (.pointer (some (ad.add (i * 5)))) (by rfl) ?_ ?_
            · intro w' hC; have k0 := HI.out; clear hC; go_simp
            simp only [Act.put, List.setIfInBounds_toArray, List.set_cons_zero, List.set_cons_succ]
            refine f_val (.pointer (some (ad.add (i * 5)))) (by rfl) ?_ ?_
            · intro w' hC; clear hC; go_simp
            simp only [Act.put, List.setIfInBounds_toArray, List.set_cons_zero, List.set_cons_succ]
            refine f_val (.int .i64 (r : Int)) (by rfl) ?_ ?_
            · intro w' hC; obtain ⟨z0, z1, z2, z3, z4⟩ := HAI.out w' hC; clear hC; go_simp
            simp only [Act.put, List.setIfInBounds_toArray, List.set_cons_zero, List.set_cons_succ]
            refine f_val (.int .u8 (S : Int)) (by rfl) ?_ ?_
            · intro w' hC; clear hC; go_simp
            simp only [Act.put, List.setIfInBounds_toArray, List.set_cons_zero, List.set_cons_succ]
            refine f_val (.int .u8 (r : Int)) (by rfl) ?_ ?_
            · intro w' hC; have k0 := HRM.out; clear hC; go_simp
            simp only [Act.put, List.setIfInBounds_toArray, List.set_cons_zero, List.set_cons_succ]
            refine f_val (.int .i64 (r : Int)) (by rfl) ?_ ?_
            · intro w' hC; have k0 := (wrapI (x := (r : Int)) (by omega) (by omega)).1; clear hC; go_simp
            simp only [Act.put, List.setIfInBounds_toArray, List.set_cons_zero, List.set_cons_succ]
            refine f_val (.bool false) (by rfl) ?_ ?_
            · intro w' hC; clear hC; go_simp
            simp only [Act.put, List.setIfInBounds_toArray, List.set_cons_zero, List.set_cons_succ]
            refine f_val (.bool false) (by rfl) ?_ ?_
            · intro w' hC; clear hC; go_simp
            simp only [Act.put, List.setIfInBounds_toArray, List.set_cons_zero, List.set_cons_succ]
            refine f_val (.slice (some ad) n1 c1) (by rfl) ?_ ?_
            · intro w' hC; clear hC; go_simp
            simp only [Act.put, List.setIfInBounds_toArray, List.set_cons_zero, List.set_cons_succ]
            refine f_val (.int .i64 (i : Int)) (by rfl) ?_ ?_
            · intro w' hC; clear hC; go_simp
            simp only [Act.put, List.setIfInBounds_toArray, List.set_cons_zero, List.set_cons_succ]
            refine f_val (.pointer (some (ad.add (i * 5)))) (by rfl) ?_ ?_
            · intro w' hC; have k0 := HI.out; clear hC; go_simp
            simp only [Act.put, List.setIfInBounds_toArray, List.set_cons_zero, List.set_cons_succ]
            refine f_val (.pointer (some { block := (ad.add (i * 5)).block, off := (ad.add (i * 5)).off + 1 })) (by rfl) ?_ ?_
            · intro w' hC; clear hC; go_simp
            simp only [Act.put, List.setIfInBounds_toArray, List.set_cons_zero, List.set_cons_succ]
            refine f_val (.agg #[.int .i64 4, .string ⟨q1.toArray⟩, .int .i64 q2, .int .i64 q3]) (by rfl) ?_ ?_
            · intro w' hC; obtain ⟨z0, z1, z2, z3, z4⟩ := HAI.out w' hC; clear hC; go_simp
            simp only [Act.put, List.setIfInBounds_toArray, List.set_cons_zero, List.set_cons_succ]
            refine f_val (.slice (some bd) n1 c) (by rfl) ?_ ?_
            · intro w' hC; clear hC; go_simp
            simp only [Act.put, List.setIfInBounds_toArray, List.set_cons_zero, List.set_cons_succ]
            refine f_val (.int .i64 (i : Int)) (by rfl) ?_ ?_
            · intro w' hC; clear hC; go_simp
            simp only [Act.put, List.setIfInBounds_toArray, List.set_cons_zero, List.set_cons_succ]
            refine f_val (.pointer (some (bd.add (i * 4)))) (by rfl) ?_ ?_
            · intro w' hC; have k0 := HI.out; clear hC; go_simp
            simp only [Act.put, List.setIfInBounds_toArray, List.set_cons_zero, List.set_cons_succ]
            refine f_val (.agg #[.int .i64 4, .string ⟨q1.toArray⟩, .int .i64 q2, .int .i64 q3]) (by rfl) ?_ ?_
            · intro w' hC; obtain ⟨y0, y1, y2, y3⟩ := HBI.out w' hC; clear hC; go_simp
            simp only [Act.put, List.setIfInBounds_toArray, List.set_cons_zero, List.set_cons_succ]
            refine f_val (.bool false) (by rfl) ?_ ?_
            · intro w' hC; clear hC; go_simp
            simp only [Act.put, List.setIfInBounds_toArray, List.set_cons_zero, List.set_cons_succ]
            refine f_val (.bool false) (by rfl) ?_ ?_
            · intro w' hC; clear hC; go_simp
            simp only [Act.put, List.setIfInBounds_toArray, List.set_cons_zero, List.set_cons_succ]
            refine wpF_end ?_
            intro w9b hC hks
            have HCw9b := Lib.hid hC
            clear hC hks
            obtain ⟨z0, z1, z2, z3, z4⟩ := HAI.out w9b HCw9b.out
            go_wp2_with (fail)
            go_roundw
            case rel => exact ⟨i + 1, t + 1, by omega, by omega, by first | rfl | go_num, by first | rfl | go_num, Lib.hid ⟨by rw [HST.out, if_pos trivial]; have := HG.out.1; omega, Grows.trans HG.out.2 HCw9b.out⟩⟩
            case measure => simp [intOf]; omega
          · have h4b : (q0 == 4) = false := by simpa using h4
            have HH4 := Lib.hid h4
            go_wp2_with (fail)
            refine wp_region_facts (E := Grows) [valFact (.slice (some ad) n1 c1), valFact (.int .i64 (i : Int)), valFact (.pointer (some (ad.add (i * 5)))), valFact (.pointer (some (ad.add (i * 5)))), valFact (.int .i64 (r : Int)), valFact (.int .u8 (S : Int)), valFact (.int .u8 (r : Int)), valFact (.int .i64 (r : Int)), valFact (.bool false), valFact (.bool false), valFact (.slice (some ad) n1 c1), valFact (.int .i64 (i : Int)), valFact (.pointer (some (ad.add (i * 5)))), valFact (.pointer (some { block := (ad.add (i * 5)).block, off := (ad.add (i * 5)).off + 1 })), valFact (.agg #[.int .i64 q0, .string ⟨q1.toArray⟩, .int .i64 q2, .int .i64 q3]), valFact (.slice (some bd) n1 c), valFact (.int .i64 (i : Int)), valFact (.pointer (some (bd.add (i * 4)))), valFact (.agg #[.int .i64 q0, .string ⟨q1.toArray⟩, .int .i64 q2, .int .i64 q3]), valFact (.bool false), valFact (.bool false)] (by kernel_rfl) (by kernel_rfl) (fun _ _ _ => Grows.trans) (grows_drew _) ?_
            refine f_val (.slice (some ad) n1 c1) (by rfl) ?_ ?_
            · intro w' hC; clear hC; go_simp
            simp only [Act.put, List.setIfInBounds_toArray, List.set_cons_zero, List.set_cons_succ]
            refine f_val (.int .i64 (i : Int)) (by rfl) ?_ ?_
            · intro w' hC; clear hC; go_simp
            simp only [Act.put, List.setIfInBounds_toArray, List.set_cons_zero, List.set_cons_succ]
            refine f_val (.pointer (some (ad.add (i * 5)))) (by rfl) ?_ ?_
            · intro w' hC; have k0 := HI.out; clear hC; go_simp
            simp only [Act.put, List.setIfInBounds_toArray, List.set_cons_zero, List.set_cons_succ]
            refine f_val (.pointer (some (ad.add (i * 5)))) (by rfl) ?_ ?_
            · intro w' hC; clear hC; go_simp
            simp only [Act.put, List.setIfInBounds_toArray, List.set_cons_zero, List.set_cons_succ]
            refine f_val (.int .i64 (r : Int)) (by rfl) ?_ ?_
            · intro w' hC; obtain ⟨z0, z1, z2, z3, z4⟩ := HAI.out w' hC; clear hC; go_simp
            simp only [Act.put, List.setIfInBounds_toArray, List.set_cons_zero, List.set_cons_succ]
            refine f_val (.int .u8 (S : Int)) (by rfl) ?_ ?_
            · intro w' hC; clear hC; go_simp
            simp only [Act.put, List.setIfInBounds_toArray, List.set_cons_zero, List.set_cons_succ]
            refine f_val (.int .u8 (r : Int)) (by rfl) ?_ ?_
            · intro w' hC; have k0 := HRM.out; clear hC; go_simp
            simp only [Act.put, List.setIfInBounds_toArray, List.set_cons_zero, List.set_cons_succ]
            refine f_val (.int .i64 (r : Int)) (by rfl) ?_ ?_
            · intro w' hC; have k0 := (wrapI (x := (r : Int)) (by omega) (by omega)).1; clear hC; go_simp
            simp only [Act.put, List.setIfInBounds_toArray, List.set_cons_zero, List.set_cons_succ]
            refine f_val (.bool false) (by rfl) ?_ ?_
            · intro w' hC; clear hC; go_simp
            simp only [Act.put, List.setIfInBounds_toArray, List.set_cons_zero, List.set_cons_succ]
            refine f_val (.bool false) (by rfl) ?_ ?_
            · intro w' hC; clear hC; go_simp
            simp only [Act.put, List.setIfInBounds_toArray, List.set_cons_zero, List.set_cons_succ]
            refine f_val (.slice (some ad) n1 c1) (by rfl) ?_ ?_
            · intro w' hC; clear hC; go_simp
            simp only [Act.put, List.setIfInBounds_toArray, List.set_cons_zero, List.set_cons_succ]
            refine f_val (.int .i64 (i : Int)) (by rfl) ?_ ?_
            · intro w' hC; clear hC; go_simp
            simp only [Act.put, List.setIfInBounds_toArray, List.set_cons_zero, List.set_cons_succ]
            refine f_val (.pointer (some (ad.add (i * 5)))) (by rfl) ?_ ?_
            · intro w' hC; have k0 := HI.out; clear hC; go_simp
            simp only [Act.put, List.setIfInBounds_toArray, List.set_cons_zero, List.set_cons_succ]
            refine f_val (.pointer (some { block := (ad.add (i * 5)).block, off := (ad.add (i * 5)).off + 1 })) (by rfl) ?_ ?_
            · intro w' hC; clear hC; go_simp
            simp only [Act.put, List.setIfInBounds_toArray, List.set_cons_zero, List.set_cons_succ]
            refine f_val (.agg #[.int .i64 q0, .string ⟨q1.toArray⟩, .int .i64 q2, .int .i64 q3]) (by rfl) ?_ ?_
            · intro w' hC; obtain ⟨z0, z1, z2, z3, z4⟩ := HAI.out w' hC; clear hC; go_simp
            simp only [Act.put, List.setIfInBounds_toArray, List.set_cons_zero, List.set_cons_succ]
            refine f_val (.slice (some bd) n1 c) (by rfl) ?_ ?_
            · intro w' hC; clear hC; go_simp
            simp only [Act.put, List.setIfInBounds_toArray, List.set_cons_zero, List.set_cons_succ]
            refine f_val (.int .i64 (i : Int)) (by rfl) ?_ ?_
            · intro w' hC; clear hC; go_simp
            simp only [Act.put, List.setIfInBounds_toArray, List.set_cons_zero, List.set_cons_succ]
            refine f_val (.pointer (some (bd.add (i * 4)))) (by rfl) ?_ ?_
            · intro w' hC; have k0 := HI.out; clear hC; go_simp
            simp only [Act.put, List.setIfInBounds_toArray, List.set_cons_zero, List.set_cons_succ]
            refine f_val (.agg #[.int .i64 q0, .string ⟨q1.toArray⟩, .int .i64 q2, .int .i64 q3]) (by rfl) ?_ ?_
            · intro w' hC; obtain ⟨y0, y1, y2, y3⟩ := HBI.out w' hC; clear hC; go_simp
            simp only [Act.put, List.setIfInBounds_toArray, List.set_cons_zero, List.set_cons_succ]
            refine f_val (.bool false) (by rfl) ?_ ?_
            · intro w' hC; clear hC; go_simp
            simp only [Act.put, List.setIfInBounds_toArray, List.set_cons_zero, List.set_cons_succ]
            refine f_val (.bool false) (by rfl) ?_ ?_
            · intro w' hC; clear hC; go_simp
            simp only [Act.put, List.setIfInBounds_toArray, List.set_cons_zero, List.set_cons_succ]
            refine wpF_end ?_
            intro w9b hC hks
            have HCw9b := Lib.hid hC
            clear hC hks
            obtain ⟨z0, z1, z2, z3, z4⟩ := HAI.out w9b HCw9b.out
            go_wp2_with (fail)
            go_roundw
            case rel => exact ⟨i + 1, t, by omega, by omega, by first | rfl | go_num, rfl, Lib.hid ⟨by rw [HST.out, if_neg HH4.out, List.length_append]; have := HG.out.1; show t + (_ + 1) = i + 1; omega, Grows.trans HG.out.2 HCw9b.out⟩⟩
            case measure => simp [intOf]; omega
        · obtain rfl : n1 = i := by omega
          have hlen3 : n3 = (liveP L1).length := H11.out.1.len.symm
          have ht3 : t + n3 = n1 := by
            have h1 := HG.out.1
            rw [List.take_of_length_le (by have := HA.out.len; omega)] at h1
            omega
          have e5 : (n3 : Int) + (t : Int) = (n1 : Int) := by omega
          have e6 : ((n1 : Int) == (n1 : Int)) = true := by simp
          have HS := Lib.hid (show Calls Try.prog 12 #[.slice A1 n1 c1, .slice A2 n2 c2] wr fun e w' => e = .returned (.bool true) ∧ Grows wr w' from by
            have h1 := same_any wr (HA.out.grow (Grows.trans H11.out.2 HG.out.2)) (HB.out.grow (Grows.trans H11.out.2 HG.out.2)) (by omega)
            rwa [decide_eq_true (H1.out.trans H2.out.symm)] at h1)
          have HLW := Lib.hid (Grows.trans HW10.out (Grows.trans H11.out.2 HG.out.2))
          have hn3 : n3 ≤ 9000 := by omega
          clear hlen3
          go_wp2_with (fail)
          refine HS.out.mono ?_
          rintro e w12 ⟨rfl, g12⟩
          have HLL := Lib.hid (live_any w12 ((H11.out.1.rs).grow (Grows.trans HG.out.2 g12)) (by omega))
          rw [live_live] at HLL
          have H12 := Lib.hid g12
          clear g12 HS
          go_wp2_with (fail)
          refine HLL.out.mono ?_
          rintro e w13 ⟨A4, n4, c4, rfl, o4, g13⟩
          have HS2 := Lib.hid (show Calls Try.prog 12 #[.slice A4 n4 c4, .slice A3 n3 c3] w13 fun e w' => e = .returned (.bool true) ∧ Grows w13 w' from by
            have h0 := o4.len
            have h2 := H11.out.1.len
            have h1 := same_any w13 o4.rs ((H11.out.1.rs).grow (Grows.trans HG.out.2 (Grows.trans H12.out g13))) (by omega)
            rwa [decide_eq_true rfl] at h1)
          have H13 := Lib.hid (Grows.trans HLW.out (Grows.trans H12.out g13))
          clear o4 g13 HLL
          go_wp2_with (fail)
          refine HS2.out.mono ?_
          rintro e w14 ⟨rfl, g14⟩
          have H14 := Lib.hid (Grows.trans H13.out g14)
          clear g14
          go_wp2_with (fail)
          go_ret
          exact ⟨rfl, H14.out⟩

set_option maxRecDepth 100000 in
theorem foldSame_lifted (os : Os) (started : os.Started) (H : Type) (enc : TypeId × Value → H) :
    ReturnsInHanded {} Try.checked os 6 .any (Rows.foldSameSpec.pre6 enc Try.prog Try.f6 Rows.foldSameRow.domain false) (Rows.foldSameSpec.post enc Try.prog Try.f6 false true false false) := by
  refine lift_law (C := Try.checked) H enc own started (by kernel_rfl) Try.func6
    (ChangeSpec.witness6 (enc := enc) (C := Try.checked) false ⟨#[], #[.slice none 0 0, .int .u8 0], []⟩ 16 (by kernel_rfl) (by kernel_rfl) (by kernel_rfl) (by kernel_rfl))
    laidOut (of_readable (by kernel_rfl)) rfl Try.underlying4 rfl (fun ds hd => ?_) (fun W base args ds p hval hA hsz => ?_)
  · match ds, hd with
    | [d1, d2], _ => rfl
  · rw [Try.params6] at hA hval hsz
    obtain ⟨v0, vs0, d0, ds0, p0, q0, hargs, rfl, rfl, h0, r0⟩ := trodAll_cons hA
    obtain ⟨v1, vs1, d1, ds1, p1, q1, rfl, rfl, rfl, h1, r1⟩ := trodAll_cons r0
    obtain ⟨rfl, rfl, rfl⟩ := trodAll_nil r1
    obtain rfl : args = #[v0, v1] := by cases args; simp_all
    obtain ⟨A0, n0, c0, xs0, rfl, hx0, hb0⟩ := open_htsF (hval 0 36 v0 rfl rfl) h0 hsz (j := 0) rfl rfl
    obtain ⟨a1, rfl, _, _, w1⟩ := open_int Try.underlying5 (hval 1 5 v1 rfl rfl) h1
    have b1 := bounds_u8 w1
    exact foldSame_law W A0 n0 c0 xs0 hx0 hb0 a1 (by omega)

theorem foldSame_over : Rows.foldSameRow.holds Try.pinned (OpenSpec.ofChange Rows.foldSameSpec) :=
  OpenClaim.holds_of_wide 6 Try.f6 rfl rfl rfl rfl rfl rfl rfl ⟨rfl, rfl, rfl, rfl, rfl⟩ rfl rfl rfl rfl rfl (by kernel_rfl) Try.func6 (by kernel_rfl)
    (of_decide_eq_true (by kernel_rfl)) (by unfold Func.isWrapper; first | (rw [if_pos (by decide +kernel)]; kernel_rfl) | (rw [if_neg (by decide +kernel)]; exact ⟨rfl, rfl⟩))
    (fun os started H enc _ => foldSame_lifted os started H enc)
theorem foldSame_holds : Rows.FoldSameSaid := foldSame_over
end Go.Proofs.Ytnnkioekjobbmaa