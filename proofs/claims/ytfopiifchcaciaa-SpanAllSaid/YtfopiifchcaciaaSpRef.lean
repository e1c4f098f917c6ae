/-
  The walks of the answer's Parts and Same.
-/
import Derived.Test.YtfopiifchcaciaaSpCollect
namespace Go.Proofs.Ytfopiifchcaciaa
open Go.RowKit
set_option linter.unusedVariables false
set_option linter.unusedSimpArgs false

set_option maxRecDepth 100000 in
set_option maxHeartbeats 4000000 in
theorem ref_parts_of (A : Option Addr) (n c : Nat) (xs : List Int) (off k : Int) (w : World) (hx : Ints w A n c xs) (hn : n ≤ 9223372036854775806) (ho : -9223372036854775808 ≤ off ∧ off ≤ 9223372036854775807) (hk : -9223372036854775808 ≤ k ∧ k ≤ 9223372036854775807) :
    Calls Try.prog 22 #[.slice A n c, .int .i64 off, .int .i64 k] w fun e w' => ∃ A' c', e = .returned (.slice A' (allP xs off k).length c') ∧ w'.ownsRow w.heap.size 40 3 (.slice A' (allP xs off k).length c') (allP xs off k).length (ptC (allP xs off k)) ∧ Below w.heap.size w w' := by
  have HX := Lib.hid hx
  have HB := Lib.hid (And.intro hn (And.intro ho hk))
  obtain ⟨PS, hPS⟩ : ∃ PS, allP xs off k = PS := ⟨_, rfl⟩
  rw [hPS]
  have HP := Lib.hid hPS
  clear hx ho hk hPS hn
  go_enter Try.func22, Try.ntmps22
  go_wp2_with (fail)
  refine (ref_size_any A n c xs w HX.out HB.out.1).mono ?_
  rintro e w1 ⟨rfl, rfl⟩
  have HZ := Lib.hid (sizeP_bound xs)
  obtain ⟨z, hz⟩ : ∃ z, sizeP xs = z := ⟨_, rfl⟩
  have HZ2 := Lib.hid hz
  rw [hz]
  clear hz
  go_wp2_with (fail)
  refine (ref_clip_any z off k w (by have := HZ.out; have := HZ2.out; omega) HB.out.2.1 HB.out.2.2).mono ?_
  rintro e w1 ⟨rfl, rfl⟩
  obtain ⟨⟨fr, to, is⟩, hcl⟩ : ∃ t, clipP z off k = t := ⟨_, rfl⟩
  have HCL := Lib.hid hcl
  rw [hcl]
  clear hcl
  dsimp only
  cases is with
  | false =>
    have HF := Lib.hid (show PS = [] by rw [← HP.out]; unfold allP; rw [HZ2.out, HCL.out]; rw [if_neg (by simp)])
    go_wp2_with (first | (refine ⟨fun _ h => (by cases h), ?_⟩) | fail)
    go_ret
    obtain rfl := HF.out
    exact ⟨none, 0, rfl, World.ownsRow_nil _ _ _ _, Below.refl _ _⟩
  | true =>
    go_wp2_with (fail)
    refine (ref_right_any A n c xs w HX.out HB.out.1).mono ?_
    rintro e w1 ⟨rfl, rfl⟩
    cases hr : rightP xs with
    | false =>
      have HF := Lib.hid (show PS = [] by rw [← HP.out]; unfold allP; rw [if_neg (by rw [hr]; simp)])
      clear hr
      go_wp2_with (fail)
      go_ret
      obtain rfl := HF.out
      exact ⟨none, 0, rfl, World.ownsRow_nil _ _ _ _, Below.refl _ _⟩
    | true =>
      have HR := Lib.hid hr
      have HPS := Lib.hid (show PS = partsP fr to 0 0 xs by rw [← HP.out]; unfold allP; rw [HZ2.out, HCL.out]; rw [if_pos ⟨HR.out, rfl⟩])
      have hbd : (0 ≤ fr ∧ fr ≤ 1073741824) ∧ 0 ≤ to ∧ to ≤ 1073741824 := by
        have h := HCL.out
        have hzb := HZ.out
        rw [HZ2.out] at hzb
        unfold clipP at h
        split at h
        · injection h with _ h; injection h with _ h; cases h
        · injection h with h1 h
          injection h with h2 _
          rw [← h1, ← h2]
          split <;> omega
      have HBD := Lib.hid hbd
      have hn : n ≤ 512 := by have := right_len HR.out; have := HX.out.len; omega
      clear hbd hr
      go_wp2_with (fail)
      go_loopw [10, 11, 12] (fun o b i wr => ∃ (LA : Option Addr) (lc m j : Nat) (t : Int) (ps : List Pt), j ≤ n ∧ m ≤ j ∧ o = .slice LA m lc ∧ b = .int .i64 t ∧ i = .int .i64 (j : Int) ∧ Hid (t = tot (xs.take j)) ∧ Hid (ps = toldP fr to xs j) ∧ Hid (ps.length = m) ∧
        Hid (wr.ownsRow w.heap.size 40 3 (.slice LA m lc) m (ptC ps)) ∧ Hid (Grows w wr)) (fun _ _ i _ => n - (intOf i).toNat)
      case atStart => exact ⟨none, 0, 0, 0, 0, [], by omega, by omega, rfl, rfl, rfl, Lib.hid rfl, Lib.hid rfl, Lib.hid rfl, Lib.hid (World.ownsRow_nil _ _ _ _), Lib.hid (Grows.refl _)⟩
      case round =>
        obtain ⟨LA, lc, m, j, t, ps, hj, hm, rfl, rfl, rfl, HT, HPJ, HM, HO, HG⟩ := hrel
        by_cases hlt : j < n
        · obtain ⟨ad, x, rfl, hc0, hgx, hblk⟩ := HX.out.get hlt
          have hc : wr.cell? (ad.add j) = some (.int .i64 x) := (HG.out.cell (by rw [add_block]; exact hblk)).trans hc0
          have HC := Lib.hid (And.intro hc0 hblk)
          have hlt' : (j : Int) < (n : Int) := by omega
          have hb2 := right_get HR.out hgx
          have hb3 := right_tot HR.out j
          rw [← HT.out] at hb3
          obtain ⟨⟨hf1, hf2⟩, ht1, ht2⟩ := HBD.out
          have k1 : IntKind.i64.wrap (t + x) = t + x := IntWalk.i64_in _ (by omega)
          have k2 : wrap64 (t + x) = t + x := IntWalk.wrap64_in _ (by omega)
          have kx : wrap64 (t + x - t) = x := IntWalk.wrap64_in _ (by omega) |>.trans (by omega)
          have kx2 : IntKind.i64.wrap (t + x - t) = x := IntWalk.i64_in _ (by omega) |>.trans (by omega)
          have kz : wrap64 0 = 0 := IntWalk.wrap64_in _ (by omega)
          have kz2 : IntKind.i64.wrap 0 = 0 := IntWalk.i64_in _ (by omega)
          have k3 : IntKind.i64.wrap (fr - t) = fr - t := IntWalk.i64_in _ (by omega)
          have k4 : wrap64 (fr - t) = fr - t := IntWalk.wrap64_in _ (by omega)
          have k5 : IntKind.i64.wrap (to - t) = to - t := IntWalk.i64_in _ (by omega)
          have k6 : wrap64 (to - t) = to - t := IntWalk.wrap64_in _ (by omega)
          have x0 : 0 < x := by omega
          have HN := Lib.hid (And.intro (tot_next xs j x hgx) (parts_next fr to xs j x hgx))
          clear hgx hblk hc0 hb2 hb3 hf1 hf2 ht1 ht2
          obtain ⟨i0, hi0, hz0, hz1, hz2⟩ := info_parts infoPart
          have HI := Lib.hid (And.intro hi0 (And.intro hz0 (And.intro hz1 hz2)))
          clear hi0 hz0 hz1 hz2
          by_cases hm1 : fr < t <;> by_cases hm2 : t + x < to
          · go_wp2_with (first
              | (at_builtin
                 refine list_append_at rfl (.tmp 51) (.tmp 60) 33 rfl w.heap.size 40 i0 (.agg #[.int .i64 0, .int .i64 0, .int .i64 0]) 3 24 Try.underlying33 HI.out.1 HI.out.2.1 HI.out.2.2.1 HI.out.2.2.2 rfl (by decide) rfl
                   (owned_grow HO.out (grows_alloc _ _)) (A := some ⟨wr.heap.size, 0, none⟩) (m := 1) (c := 1) (B := (wr.alloc (.cells #[.int .i64 (j : Int), .int .i64 0, .int .i64 x] 40)).heap.size) (news := ptV ((j : Int), 0, x)) rfl
                   (Pts.lit (Whole.made wr 40 #[.int .i64 (j : Int), .int .i64 0, .int .i64 x]) [((j : Int), 0, x)] rfl rfl).row (fun h => by cases h) (ptV_one _) (m + 1) rfl (by unfold maxLen; omega) (by omega) (by rw [World.size_alloc]; have := HG.out.size; omega) ?_
                 intro A1 c1 w1 ho1 hg1 hd1
                 have HO1 := Lib.hid (And.intro ho1 (Below.trans (Below.trans HG.out (Below.mono (grows_alloc _ _) HG.out.size)) (below_append (Below.refl w.heap.size _) hg1 (by rw [World.size_alloc]; have := HG.out.size; omega) fun g hg => (owned_lt3 HO.out hg).1)))
                 have zc : w1.cell? (ad.add j) = some (.int .i64 x) := (HO1.out.2.cell (by rw [add_block]; exact HC.out.2)).trans HC.out.1
                 clear ho1 hg1 hd1)
              | fail)
            exact ⟨⟨A1, c1, m + 1, j + 1, t + x, ps ++ [((j : Int), 0, x)], by omega, by omega, rfl, rfl, rfl, Lib.hid (by rw [HN.out.1, HT.out]), Lib.hid (by
                rw [toldP, HN.out.2, ← HT.out, HPJ.out, toldP]
                unfold partP
                rw [show max (fr - t) 0 = 0 by omega, show min (to - t) x = x by omega, if_pos (by omega)]), Lib.hid (by rw [List.length_append, HM.out]; rfl), Lib.hid (by rw [ptC_snoc]; exact HO1.out.1), Lib.hid HO1.out.2⟩, by simp [intOf]; omega⟩
          · by_cases hpp : t < to
            · go_wp2_with (first
                | (at_builtin
                   refine list_append_at rfl (.tmp 51) (.tmp 60) 33 rfl w.heap.size 40 i0 (.agg #[.int .i64 0, .int .i64 0, .int .i64 0]) 3 24 Try.underlying33 HI.out.1 HI.out.2.1 HI.out.2.2.1 HI.out.2.2.2 rfl (by decide) rfl
                     (owned_grow HO.out (grows_alloc _ _)) (A := some ⟨wr.heap.size, 0, none⟩) (m := 1) (c := 1) (B := (wr.alloc (.cells #[.int .i64 (j : Int), .int .i64 0, .int .i64 (to - t)] 40)).heap.size) (news := ptV ((j : Int), 0, (to - t))) rfl
                     (Pts.lit (Whole.made wr 40 #[.int .i64 (j : Int), .int .i64 0, .int .i64 (to - t)]) [((j : Int), 0, (to - t))] rfl rfl).row (fun h => by cases h) (ptV_one _) (m + 1) rfl (by unfold maxLen; omega) (by omega) (by rw [World.size_alloc]; have := HG.out.size; omega) ?_
                   intro A1 c1 w1 ho1 hg1 hd1
                   have HO1 := Lib.hid (And.intro ho1 (Below.trans (Below.trans HG.out (Below.mono (grows_alloc _ _) HG.out.size)) (below_append (Below.refl w.heap.size _) hg1 (by rw [World.size_alloc]; have := HG.out.size; omega) fun g hg => (owned_lt3 HO.out hg).1)))
                   have zc : w1.cell? (ad.add j) = some (.int .i64 x) := (HO1.out.2.cell (by rw [add_block]; exact HC.out.2)).trans HC.out.1
                   clear ho1 hg1 hd1)
                | fail)
              exact ⟨⟨A1, c1, m + 1, j + 1, t + x, ps ++ [((j : Int), 0, (to - t))], by omega, by omega, rfl, rfl, rfl, Lib.hid (by rw [HN.out.1, HT.out]), Lib.hid (by
                rw [toldP, HN.out.2, ← HT.out, HPJ.out, toldP]
                unfold partP
                rw [show max (fr - t) 0 = 0 by omega, show min (to - t) x = (to - t) by omega, if_pos (by omega)]), Lib.hid (by rw [List.length_append, HM.out]; rfl), Lib.hid (by rw [ptC_snoc]; exact HO1.out.1), Lib.hid HO1.out.2⟩, by simp [intOf]; omega⟩
            · go_wp2_with (fail)
              exact ⟨⟨LA, lc, m, j + 1, t + x, ps, by omega, by omega, rfl, rfl, rfl, Lib.hid (by rw [HN.out.1, HT.out]), Lib.hid (by
                rw [toldP, HN.out.2, ← HT.out, HPJ.out, toldP]
                unfold partP
                rw [show max (fr - t) 0 = 0 by omega, show min (to - t) x = (to - t) by omega, if_neg (by omega), List.append_nil]), Lib.hid (HM.out), HO, HG⟩, by simp [intOf]; omega⟩
          · by_cases hpp : fr < (t + x)
            · go_wp2_with (first
                | (at_builtin
                   refine list_append_at rfl (.tmp 51) (.tmp 60) 33 rfl w.heap.size 40 i0 (.agg #[.int .i64 0, .int .i64 0, .int .i64 0]) 3 24 Try.underlying33 HI.out.1 HI.out.2.1 HI.out.2.2.1 HI.out.2.2.2 rfl (by decide) rfl
                     (owned_grow HO.out (grows_alloc _ _)) (A := some ⟨wr.heap.size, 0, none⟩) (m := 1) (c := 1) (B := (wr.alloc (.cells #[.int .i64 (j : Int), .int .i64 (fr - t), .int .i64 x] 40)).heap.size) (news := ptV ((j : Int), (fr - t), x)) rfl
                     (Pts.lit (Whole.made wr 40 #[.int .i64 (j : Int), .int .i64 (fr - t), .int .i64 x]) [((j : Int), (fr - t), x)] rfl rfl).row (fun h => by cases h) (ptV_one _) (m + 1) rfl (by unfold maxLen; omega) (by omega) (by rw [World.size_alloc]; have := HG.out.size; omega) ?_
                   intro A1 c1 w1 ho1 hg1 hd1
                   have HO1 := Lib.hid (And.intro ho1 (Below.trans (Below.trans HG.out (Below.mono (grows_alloc _ _) HG.out.size)) (below_append (Below.refl w.heap.size _) hg1 (by rw [World.size_alloc]; have := HG.out.size; omega) fun g hg => (owned_lt3 HO.out hg).1)))
                   have zc : w1.cell? (ad.add j) = some (.int .i64 x) := (HO1.out.2.cell (by rw [add_block]; exact HC.out.2)).trans HC.out.1
                   clear ho1 hg1 hd1)
                | fail)
              exact ⟨⟨A1, c1, m + 1, j + 1, t + x, ps ++ [((j : Int), (fr - t), x)], by omega, by omega, rfl, rfl, rfl, Lib.hid (by rw [HN.out.1, HT.out]), Lib.hid (by
                rw [toldP, HN.out.2, ← HT.out, HPJ.out, toldP]
                unfold partP
                rw [show max (fr - t) 0 = (fr - t) by omega, show min (to - t) x = x by omega, if_pos (by omega)]), Lib.hid (by rw [List.length_append, HM.out]; rfl), Lib.hid (by rw [ptC_snoc]; exact HO1.out.1), Lib.hid HO1.out.2⟩, by simp [intOf]; omega⟩
            · go_wp2_with (fail)
              exact ⟨⟨LA, lc, m, j + 1, t + x, ps, by omega, by omega, rfl, rfl, rfl, Lib.hid (by rw [HN.out.1, HT.out]), Lib.hid (by
                rw [toldP, HN.out.2, ← HT.out, HPJ.out, toldP]
                unfold partP
                rw [show max (fr - t) 0 = (fr - t) by omega, show min (to - t) x = x by omega, if_neg (by omega), List.append_nil]), Lib.hid (HM.out), HO, HG⟩, by simp [intOf]; omega⟩
          · by_cases hpp : fr < to
            · go_wp2_with (first
                | (at_builtin
                   refine list_append_at rfl (.tmp 51) (.tmp 60) 33 rfl w.heap.size 40 i0 (.agg #[.int .i64 0, .int .i64 0, .int .i64 0]) 3 24 Try.underlying33 HI.out.1 HI.out.2.1 HI.out.2.2.1 HI.out.2.2.2 rfl (by decide) rfl
                     (owned_grow HO.out (grows_alloc _ _)) (A := some ⟨wr.heap.size, 0, none⟩) (m := 1) (c := 1) (B := (wr.alloc (.cells #[.int .i64 (j : Int), .int .i64 (fr - t), .int .i64 (to - t)] 40)).heap.size) (news := ptV ((j : Int), (fr - t), (to - t))) rfl
                     (Pts.lit (Whole.made wr 40 #[.int .i64 (j : Int), .int .i64 (fr - t), .int .i64 (to - t)]) [((j : Int), (fr - t), (to - t))] rfl rfl).row (fun h => by cases h) (ptV_one _) (m + 1) rfl (by unfold maxLen; omega) (by omega) (by rw [World.size_alloc]; have := HG.out.size; omega) ?_
                   intro A1 c1 w1 ho1 hg1 hd1
                   have HO1 := Lib.hid (And.intro ho1 (Below.trans (Below.trans HG.out (Below.mono (grows_alloc _ _) HG.out.size)) (below_append (Below.refl w.heap.size _) hg1 (by rw [World.size_alloc]; have := HG.out.size; omega) fun g hg => (owned_lt3 HO.out hg).1)))
                   have zc : w1.cell? (ad.add j) = some (.int .i64 x) := (HO1.out.2.cell (by rw [add_block]; exact HC.out.2)).trans HC.out.1
                   clear ho1 hg1 hd1)
                | fail)
              exact ⟨⟨A1, c1, m + 1, j + 1, t + x, ps ++ [((j : Int), (fr - t), (to - t))], by omega, by omega, rfl, rfl, rfl, Lib.hid (by rw [HN.out.1, HT.out]), Lib.hid (by
                rw [toldP, HN.out.2, ← HT.out, HPJ.out, toldP]
                unfold partP
                rw [show max (fr - t) 0 = (fr - t) by omega, show min (to - t) x = (to - t) by omega, if_pos (by omega)]), Lib.hid (by rw [List.length_append, HM.out]; rfl), Lib.hid (by rw [ptC_snoc]; exact HO1.out.1), Lib.hid HO1.out.2⟩, by simp [intOf]; omega⟩
            · go_wp2_with (fail)
              exact ⟨⟨LA, lc, m, j + 1, t + x, ps, by omega, by omega, rfl, rfl, rfl, Lib.hid (by rw [HN.out.1, HT.out]), Lib.hid (by
                rw [toldP, HN.out.2, ← HT.out, HPJ.out, toldP]
                unfold partP
                rw [show max (fr - t) 0 = (fr - t) by omega, show min (to - t) x = (to - t) by omega, if_neg (by omega), List.append_nil]), Lib.hid (HM.out), HO, HG⟩, by simp [intOf]; omega⟩
        · obtain rfl : j = n := by omega
          have HE := Lib.hid (show ps = PS by
            rw [HPS.out, HPJ.out, toldP, List.take_of_length_le (by have := HX.out.len; omega)])
          have hlt' : ¬ (j : Int) < (j : Int) := by omega
          go_wp2_with (fail)
          go_ret
          have hm := HM.out
          obtain rfl := HE.out
          subst hm
          exact ⟨LA, lc, rfl, HO.out, HG.out⟩
theorem eq_part (a b c d e f : Int) (w : World) : (Op.equalIn 10000 40 (.agg #[.int .i64 a, .int .i64 b, .int .i64 c]) (.agg #[.int .i64 d, .int .i64 e, .int .i64 f])).run Try.prog w = .ok (decide (a = d ∧ b = e ∧ c = f)) w := by
  have hf : Try.prog.fieldsOf 40 = #[{ name := "Piece", type := 3, offset := 0, embedded := false, tag := "", pkgPath := "", byteOffset := 0 }, { name := "From", type := 3, offset := 1, embedded := false, tag := "", pkgPath := "", byteOffset := 8 }, { name := "To", type := 3, offset := 2, embedded := false, tag := "", pkgPath := "", byteOffset := 16 }] := by
    unfold Program.fieldsOf
    rw [Try.underlying40]
  have hu : Try.prog.underlying 40 = some (.struct (Try.prog.fieldsOf 40)) := by rw [hf]; exact Try.underlying40
  have hp : Try.prog.stoodInHeld 40 = false := by kernel_rfl
  have hi : ∀ w, (isAgg 3).run Try.prog w = .ok false w := fun w => by kernel_rfl
  have he : ∀ (x y : Int) (w : World), (Op.equalIn 9999 3 (.int .i64 x) (.int .i64 y)).run Try.prog w = .ok (x == y) w := fun x y w => run_equalIn_int w 9998 _ _ _ x y Try.underlying3
  rw [run_equalIn_struct w 9999 _ _ _ hu hp, hf]
  have hpa : ∀ (cs : Array Value) (i : Nat) (v : Value) (w : World), cs[i]? = some v → (part 3 cs i).run Try.prog w = .ok v w := fun cs i v w h => by
    simp [part, hi, h]
  have h0 := fun w => hpa #[.int .i64 a, .int .i64 b, .int .i64 c] 0 (.int .i64 a) w rfl
  have h1 := fun w => hpa #[.int .i64 a, .int .i64 b, .int .i64 c] 1 (.int .i64 b) w rfl
  have h2 := fun w => hpa #[.int .i64 a, .int .i64 b, .int .i64 c] 2 (.int .i64 c) w rfl
  have g0 := fun w => hpa #[.int .i64 d, .int .i64 e, .int .i64 f] 0 (.int .i64 d) w rfl
  have g1 := fun w => hpa #[.int .i64 d, .int .i64 e, .int .i64 f] 1 (.int .i64 e) w rfl
  have g2 := fun w => hpa #[.int .i64 d, .int .i64 e, .int .i64 f] 2 (.int .i64 f) w rfl
  by_cases e1 : a = d
  · subst e1
    by_cases e2 : b = e
    · subst e2
      by_cases e3 : c = f
      · subst e3
        simp [Op.eqFields, h0, h1, h2, he]
      · have b3 : (c == f) = false := by simpa using e3
        simp [Op.eqFields, h0, h1, h2, g0, g1, g2, he, b3, e3]
    · have b2 : (b == e) = false := by simpa using e2
      simp [Op.eqFields, h0, h1, g0, g1, he, b2, e2]
  · have b1 : (a == d) = false := by simpa using e1
    simp [Op.eqFields, h0, g0, he, b1, e1]

end Go.Proofs.Ytfopiifchcaciaa
