/-
  Statement SpanParted: a range, parted anywhere, has the parts of both, but that one piece may be parted. Every list of bytes as sizes, every off, n and place, no condition.
-/
import Derived.Test.YtfopiifchcaciaaSpLit
import Derived.ProofKit
import Derived.ChangeOld
namespace Go.Proofs.Ytfopiifchcaciaa
open Go.ChangeShapes Go.WideShapes Go.ChangeAt Go.RowKit
set_option linter.unusedSimpArgs false
set_option linter.unusedVariables false
attribute [local irreducible] Go.wpQuiet
theorem less_one (e1 : Nat) (h : e1 ≤ 600) : IntKind.i64.wrap ((e1 : Int) + 1 - 1) = (e1 : Int) ∧ wrap64 ((e1 : Int) + 1 - 1) = (e1 : Int) ∧ IntKind.i64.wrap (e1 : Int) = (e1 : Int) ∧ wrap64 (e1 : Int) = (e1 : Int) ∧ (0 : Int) ≤ (e1 : Int) ∧ (e1 : Int) < (e1 : Int) + 1 :=
  ⟨(IntWalk.i64_in _ (by omega)).trans (by omega), (IntWalk.wrap64_in _ (by omega)).trans (by omega), IntWalk.i64_in _ (by omega), IntWalk.wrap64_in _ (by omega), by omega, by omega⟩

set_option maxRecDepth 100000 in
set_option maxHeartbeats 8000000 in
theorem spanParted_law (w : World) (A : Option Addr) (n c : Nat) (bs : List UInt8) (hx : Came w A n c bs) (o : Int) (ho : 0 ≤ o ∧ o < 65536) (m : Int) (hm : 0 ≤ m ∧ m < 65536) (at' : Int) (hat : 0 ≤ at' ∧ at' < 65536) :
    Calls Try.prog 6 #[.slice A n c, .int .u16 o, .int .u16 m, .int .u16 at'] w fun e w' => e = .returned (.bool true) ∧ Below w.heap.size w w' := by
  have HX := Lib.hid hx
  have HOF := Lib.hid (And.intro ho (And.intro hm hat))
  have hlb : bs.length = n := hx.sl.len
  have HLB := Lib.hid hlb
  clear hx ho hlb hm hat
  go_enter Try.func6, Try.ntmps6
  go_wp2_with (fail)
  refine (head7_any w).mono ?_
  rintro e w0 ⟨rfl, hb0⟩
  have HG0 := Lib.hid hb0
  clear hb0
  by_cases hbig : (200 : Int) < (n : Int)
  · go_wp2_with (fail)
    go_ret
    exact ⟨rfl, HG0.out⟩
  obtain ⟨xs, hxs⟩ : ∃ xs, sizesOf bs = xs := ⟨_, rfl⟩
  have HXS := Lib.hid hxs
  have HR : Hid (rightP xs = true) := Lib.hid (by rw [← hxs]; exact sizesOf_right bs (by have := HLB.out; omega))
  have HLX : Hid (xs.length = n) := Lib.hid (by rw [← hxs, sizesOf_len]; exact HLB.out)
  obtain ⟨i0, hi0, hz0, hz1, hz2⟩ := info_parts infoPart
  have HI := Lib.hid (And.intro hi0 (And.intro hz0 (And.intro hz1 hz2)))
  obtain ⟨i1, hi0', hz0', hz1', hz2'⟩ := info_parts infoI
  have HI1 := Lib.hid (And.intro hi0' (And.intro hz0' (And.intro hz1' hz2')))
  clear hxs hi0 hz0 hz1 hz2 hi0' hz0' hz1' hz2'
  go_wp2_with (fail)
  go_loopw [10, 11] (fun s i wr => ∃ (SA : Option Addr) (sc j : Nat), j ≤ n ∧ s = .slice SA j sc ∧ i = .int .i64 (j : Int) ∧ Hid (wr.ownsRow w0.heap.size 3 1 (.slice SA j sc) j ((xs.take j).map iV)) ∧ Hid (Below w0.heap.size w0 wr)) (fun _ i _ => n - (intOf i).toNat)
  case atStart => exact ⟨none, 0, 0, by omega, rfl, rfl, Lib.hid (World.ownsRow_nil _ _ _ _), Lib.hid (Below.refl _ _)⟩
  case round =>
    obtain ⟨SA, sc, j, hj, rfl, rfl, HS, HB⟩ := hrel
    by_cases hlt : j < n
    · obtain ⟨ad, rfl, hblk, hc0⟩ := HX.out.bytes.spot hlt
      obtain ⟨y, hy⟩ : ∃ y, (bs.getD j 0).toNat = y := ⟨_, rfl⟩
      have hy2 : y < 256 := by rw [← hy]; exact UInt8.toNat_lt _
      rw [hy] at hc0
      have hcw : wr.cell? (ad.add j) = some (.int .u8 (y : Nat)) := ((Below.trans HG0.out (Below.mono HB.out HG0.out.size)).cell (by rw [add_block]; exact hblk)).trans hc0
      have HN := Lib.hid (sizesOf_next bs j (by have := HLB.out; omega))
      rw [HXS.out, hy] at HN
      have k1 : IntKind.i64.wrap (y : Int) = (y : Int) := IntWalk.i64_in _ (by omega)
      have k2 : wrap64 (y : Int) = (y : Int) := IntWalk.wrap64_in _ (by omega)
      obtain ⟨x, hx⟩ : ∃ x : Int, 1 + (y : Int) = x := ⟨_, rfl⟩
      rw [hx] at HN
      have k3 : IntKind.i64.wrap (1 + (y : Int)) = x := (IntWalk.i64_in _ (by omega)).trans hx
      have k4 : wrap64 (1 + (y : Int)) = x := (IntWalk.wrap64_in _ (by omega)).trans hx
      have i0' : (0 : Int) ≤ (j : Int) := by omega
      have i1' : (j : Int) < (n : Int) := by omega
      have ii : IntKind.i64.wrap ((j : Int) + 1) = (j : Int) + 1 := IntWalk.i64_in _ (by omega)
      clear hblk hc0 hy hx
      go_wp2_with (first
        | (at_builtin
           refine list_append_at rfl (.tmp 30) (.tmp 37) 28 rfl w0.heap.size 3 i1 (.int .i64 0) 1 8 Try.underlying28 HI1.out.1 HI1.out.2.1 HI1.out.2.2.1 HI1.out.2.2.2 rfl (by decide) rfl
             (owned_grow HS.out (grows_alloc _ _)) (A := some ⟨wr.heap.size, 0, none⟩) (m := 1) (c := 1) (B := (wr.alloc (.cells #[.int .i64 x] 3)).heap.size) (news := [iV x]) rfl
             (row_lit (Whole.made wr 3 #[.int .i64 x]) [iV x] rfl rfl) (fun h => by cases h) (by intro u hu; rw [List.mem_singleton.1 hu]; rfl) (j + 1) rfl (by unfold maxLen; omega) (by omega) (by rw [World.size_alloc]; have := HB.out.size; omega) ?_
           intro A1 c1 w1 ho1 hg1 hd1
           have HB1 := Lib.hid (Below.trans HB.out (Below.trans (Below.mono (grows_alloc wr (.cells #[.int .i64 x] 3)) HB.out.size) (below_append (Below.refl w0.heap.size _) hg1 (by rw [World.size_alloc]; have := HB.out.size; omega) fun g hg => (owned_lt3 HS.out hg).1)))
           have HS1 := Lib.hid ho1
           clear ho1 hg1 hd1)
        | fail)
      exact ⟨⟨A1, c1, j + 1, by omega, rfl, rfl, Lib.hid (by rw [HN.out, List.map_append]; exact HS1.out), HB1⟩, by simp [intOf]; omega⟩
    · obtain rfl : j = n := by omega
      have htk : xs.take j = xs := List.take_of_length_le (by have := HLX.out; omega)
      rw [htk] at HS
      have HX2 := Lib.hid (Ints.owned HS.out)
      have HG := Lib.hid (Below.trans HG0.out (Below.mono HB.out HG0.out.size))
      obtain ⟨T, hT⟩ : ∃ T, tot xs = T := ⟨_, rfl⟩
      have hTb := tot_right HR.out
      rw [hT] at hTb
      obtain ⟨⟨ho1, ho2⟩, ⟨hm1, hm2⟩, ha1, ha2⟩ := HOF.out
      obtain ⟨m1, hm3⟩ : ∃ m1, m + 1 = m1 := ⟨_, rfl⟩
      obtain ⟨k, hk⟩ : ∃ k, at'.tmod m1 = k := ⟨_, rfl⟩
      have hk2 : at' % m1 = k := by rw [← hk, Int.tmod_eq_emod_of_nonneg ha1]
      have hkb : 0 ≤ k ∧ k ≤ m := by
        have h1 := Int.emod_nonneg at' (b := m1) (by omega)
        have h2 := Int.emod_lt_of_pos at' (b := m1) (by omega)
        omega
      obtain ⟨ok, hok⟩ : ∃ ok, o + k = ok := ⟨_, rfl⟩
      obtain ⟨om, hom⟩ : ∃ om, o + m = om := ⟨_, rfl⟩
      obtain ⟨mk, hmk⟩ : ∃ mk, m - k = mk := ⟨_, rfl⟩
      have k1 : IntKind.i64.wrap o = o ∧ IntKind.i64.wrap m = m ∧ IntKind.i64.wrap at' = at' ∧ IntKind.i64.wrap k = k := ⟨IntWalk.i64_in _ (by omega), IntWalk.i64_in _ (by omega), IntWalk.i64_in _ (by omega), IntWalk.i64_in _ (by omega)⟩
      have k2 : wrap64 o = o ∧ wrap64 m = m ∧ wrap64 at' = at' ∧ wrap64 k = k := ⟨IntWalk.wrap64_in _ (by omega), IntWalk.wrap64_in _ (by omega), IntWalk.wrap64_in _ (by omega), IntWalk.wrap64_in _ (by omega)⟩
      obtain ⟨k1a, k1b, k1c, k1d⟩ := k1
      obtain ⟨k2a, k2b, k2c, k2d⟩ := k2
      have k3 : IntKind.i64.wrap (m + 1) = m1 := (IntWalk.i64_in _ (by omega)).trans hm3
      have k4 : wrap64 (m + 1) = m1 := (IntWalk.wrap64_in _ (by omega)).trans hm3
      have k5 : IntKind.i64.wrap (o + k) = ok := (IntWalk.i64_in _ (by omega)).trans hok
      have k6 : wrap64 (o + k) = ok := (IntWalk.wrap64_in _ (by omega)).trans hok
      have k7 : IntKind.i64.wrap (o + m) = om := (IntWalk.i64_in _ (by omega)).trans hom
      have k8 : wrap64 (o + m) = om := (IntWalk.wrap64_in _ (by omega)).trans hom
      have k9 : IntKind.i64.wrap (m - k) = mk := (IntWalk.i64_in _ (by omega)).trans hmk
      have k10 : wrap64 (m - k) = mk := (IntWalk.wrap64_in _ (by omega)).trans hmk
      have hne : ¬ m1 = 0 := by omega
      have HSZ := Lib.hid (size_right HR.out)
      rw [hT] at HSZ
      have HNB := Lib.hid (And.intro hTb (And.intro hkb (And.intro hm3 (And.intro hok (And.intro hom (And.intro hmk hT))))))
      clear hTb hkb hm3 hT hk2 htk HS HB ho1 ho2 hm1 hm2 ha1 ha2 hok hom hmk
      go_wp2_with (fail)
      have hsz := size_any SA j sc xs wr HX2.out
      rw [HSZ.out] at hsz
      refine hsz.mono ?_
      clear hsz
      rintro e w1 ⟨rfl, rfl⟩
      by_cases hgt : T < om
      · go_wp2_with (fail)
        go_ret
        exact ⟨rfl, HG.out⟩
      obtain ⟨hTb, hkb, hm3, hok, hom, hmk, hT⟩ := HNB.out
      obtain ⟨⟨ho1, ho2⟩, ⟨hm1, hm2⟩, ha1, ha2⟩ := HOF.out
      obtain ⟨PA, hPA⟩ : ∃ PA, partsP o om 0 0 xs = PA := ⟨_, rfl⟩
      obtain ⟨P1, hP1⟩ : ∃ P1, partsP o ok 0 0 xs = P1 := ⟨_, rfl⟩
      obtain ⟨P2, hP2⟩ : ∃ P2, partsP ok om 0 0 xs = P2 := ⟨_, rfl⟩
      have E1 := Lib.hid ((all_yes HR.out o m om (by omega) (by rw [hT]; split <;> omega)).trans hPA)
      have E2 := Lib.hid ((all_yes HR.out o k ok (by omega) (by rw [hT]; split <;> omega)).trans hP1)
      have E3 := Lib.hid ((all_yes HR.out ok mk om (by omega) (by rw [hT]; split <;> omega)).trans hP2)
      have HJ : Hid (Joins P1 P2 PA) := Lib.hid (by rw [← hP1, ← hP2, ← hPA]; exact parts_join o ok om (by omega) (by omega) xs 0 0 (right_pos HR.out))
      have HL : Hid (PA.length ≤ 512 ∧ P1.length ≤ 512 ∧ P2.length ≤ 512) := Lib.hid (by
        have hl := right_len HR.out
        have q1 := parts_few o om xs 0 0
        have q2 := parts_few o ok xs 0 0
        have q3 := parts_few ok om xs 0 0
        rw [hPA] at q1
        rw [hP1] at q2
        rw [hP2] at q3
        omega)
      have HBD := Lib.hid (show (-9223372036854775808 ≤ o ∧ o ≤ 9223372036854775807) ∧ (-9223372036854775808 ≤ m ∧ m ≤ 9223372036854775807) ∧ (-9223372036854775808 ≤ k ∧ k ≤ 9223372036854775807) ∧ (-9223372036854775808 ≤ ok ∧ ok ≤ 9223372036854775807) ∧ (-9223372036854775808 ≤ mk ∧ mk ≤ 9223372036854775807) by omega)
      clear hTb hkb hm3 hok hom hmk hT ho1 ho2 hm1 hm2 ha1 ha2 hPA hP1 hP2
      go_wp2_with (fail)
      have hp := parts_of SA j sc xs o m wr HX2.out HBD.out.1 HBD.out.2.1
      rw [E1.out] at hp
      refine hp.mono ?_
      clear hp
      rintro e w1 ⟨A1, c1, rfl, ho1, hb1⟩
      have H1 := Lib.hid (And.intro (Pts.owned rfl ho1) hb1)
      clear ho1 hb1
      go_wp2_with (fail)
      have hp := parts_of SA j sc xs o k w1 (HX2.out.grow H1.out.2) HBD.out.1 HBD.out.2.2.1
      rw [E2.out] at hp
      refine hp.mono ?_
      clear hp
      rintro e w2 ⟨A2, c2, rfl, ho2, hb2⟩
      have H2 := Lib.hid (And.intro (Pts.owned rfl ho2) (Grows.trans H1.out.2 hb2))
      have H1' := Lib.hid (H1.out.1.grow hb2)
      clear ho2 hb2
      go_wp2_with (fail)
      have hp := parts_of SA j sc xs ok mk w2 (HX2.out.grow H2.out.2) HBD.out.2.2.2.1 HBD.out.2.2.2.2
      rw [E3.out] at hp
      refine hp.mono ?_
      clear hp
      rintro e w3 ⟨A3, c3, rfl, ho3, hb3⟩
      have H3 := Lib.hid (And.intro (H1'.out.grow hb3) (And.intro (H2.out.1.grow hb3) (And.intro (Pts.owned rfl ho3) (Grows.trans H2.out.2 hb3))))
      clear ho3 hb3 H1 H1' H2
      obtain ⟨la, hla⟩ : ∃ la, PA.length = la := ⟨_, rfl⟩
      obtain ⟨l1, hl1⟩ : ∃ l1, P1.length = l1 := ⟨_, rfl⟩
      obtain ⟨l2, hl2⟩ : ∃ l2, P2.length = l2 := ⟨_, rfl⟩
      rw [hla, hl1, hl2] at H3 HL
      rw [hla, hl1, hl2]
      have HLL := Lib.hid (And.intro hla (And.intro hl1 hl2))
      clear hla hl1 hl2
      obtain ⟨l5, hl5⟩ : ∃ l5, l1 + l2 = l5 := ⟨_, rfl⟩
      have HL5 := Lib.hid hl5
      clear hl5
      have HL0 : Hid ((w3.alloc (.cells #[] 40)).ownsRow w3.heap.size 40 3 (.slice (some ⟨w3.heap.size, 0, none⟩) 0 0) 0 (ptC [])) := Lib.hid (World.ownsRow_lit w3 #[] 0 (Nat.le_refl _) (Nat.zero_le _) rfl)
      go_wp2_with (first
        | (at_builtin
           refine list_append_at rfl (.tmp 71) (.tmp 72) 33 rfl w3.heap.size 40 i0 (.agg #[.int .i64 0, .int .i64 0, .int .i64 0]) 3 24 Try.underlying33 HI.out.1 HI.out.2.1 HI.out.2.2.1 HI.out.2.2.2 rfl (by decide) rfl
             HL0.out (news := ptC P1) rfl (H3.out.2.1.grow (grows_alloc w3 (.cells #[] 40))).row H3.out.2.1.bare (ptC_one P1) l1 (by omega) (by unfold maxLen; have := HL.out; omega) (by have := HL.out; omega) (by simp) ?_
           intro A4 c4 w4 ho4 hg4 hd4
           have HB4 := Lib.hid (show Below w3.heap.size w3 w4 from Below.trans (grows_alloc w3 (.cells #[] 40)) (below_append (Below.refl w3.heap.size _) hg4 (by simp) fun g hg => (owned_lt3 HL0.out hg).1))
           have HO4 : Hid (w4.ownsRow w3.heap.size 40 3 (.slice A4 l1 c4) l1 (ptC P1)) := Lib.hid (by rw [show ptC [] ++ ptC P1 = ptC P1 from rfl] at ho4; exact ho4)
           clear ho4 hg4 hd4)
        | (at_builtin
           refine list_append_at rfl (.tmp 73) (.tmp 74) 33 rfl w3.heap.size 40 i0 (.agg #[.int .i64 0, .int .i64 0, .int .i64 0]) 3 24 Try.underlying33 HI.out.1 HI.out.2.1 HI.out.2.2.1 HI.out.2.2.2 rfl (by decide) rfl
             HO4.out (news := ptC P2) rfl (H3.out.2.2.1.grow HB4.out).row H3.out.2.2.1.bare (ptC_one P2) l5 HL5.out (by unfold maxLen; have := HL.out; have := HL5.out; omega) (by have := HL.out; have := HL5.out; omega) HB4.out.size ?_
           intro A5 c5 w5 ho5 hg5 hd5
           have HB5 := Lib.hid (show Below w3.heap.size w3 w5 from Below.trans HB4.out (below_append (Below.refl w3.heap.size _) hg5 HB4.out.size fun g hg => (owned_lt3 HO4.out hg).1))
           have HO5 : Hid (w5.ownsRow w3.heap.size 40 3 (.slice A5 l5 c5) l5 (ptC (P1 ++ P2))) := Lib.hid (by rw [ptC_append]; exact ho5)
           clear ho5 hg5 hd5)
        | fail)
      rcases List.eq_nil_or_concat P1 with hP1 | ⟨ini, p, hP1⟩
      rotate_left 1
      rw [List.concat_eq_append] at hP1
      rotate_left 1
      · have hl10 : l1 = 0 := by have := HLL.out.2.1; rw [hP1] at this; simpa using this.symm
        have HPA : Hid (PA = P1 ++ P2) := Lib.hid (by
          rcases HJ.out with ⟨ini, p, q, qs, h, _⟩ | ⟨h, _⟩
          · rw [hP1] at h; simp at h
          · exact h)
        clear hP1
        subst hl10
        refine q_region mixed (by kernel_rfl) ?_
        iterate 4 (refine q_op' (v := ?_) (a' := ?_) (by rfl) ?_ ?_ ?_
                   rotate_left 2
                   · intro w' hC
                     clear hC
                     go_simp
                     try with_reducible rfl
                   · simp only [Act.put, List.setIfInBounds_toArray, List.set_cons_zero, List.set_cons_succ]
                     try rfl)
        iterate 3 (refine q_skip' (a' := ?_) (by rfl) ?_ ?_
                   rotate_left 1
                   · simp only [Act.put, List.setIfInBounds_toArray, List.set_cons_zero, List.set_cons_succ]
                     try rfl)
        iterate 2 (refine q_op' (v := ?_) (a' := ?_) (by rfl) ?_ ?_ ?_
                   rotate_left 2
                   · intro w' hC
                     clear hC
                     go_simp
                     try with_reducible rfl
                   · simp only [Act.put, List.setIfInBounds_toArray, List.set_cons_zero, List.set_cons_succ]
                     try rfl)
        iterate 12 (refine q_skip' (a' := ?_) (by rfl) ?_ ?_
                    rotate_left 1
                    · simp only [Act.put, List.setIfInBounds_toArray, List.set_cons_zero, List.set_cons_succ]
                      try rfl)
        iterate 1 (refine q_op' (v := ?_) (a' := ?_) (by rfl) ?_ ?_ ?_
                   rotate_left 2
                   · intro w' hC
                     clear hC
                     go_simp
                     try with_reducible rfl
                   · simp only [Act.put, List.setIfInBounds_toArray, List.set_cons_zero, List.set_cons_succ]
                     try rfl)
        refine wpQuiet_nil ?_
        intro w6 hC
        have HCw6 := Lib.hid hC
        clear hC
        go_wp2_with (fail)
        refine (same_true _ _ _ _ _ _ PA (P1 ++ P2) w6 (H3.out.1.grow (Grows.trans HB5.out HCw6.out)) ((Pts.owned (by rw [List.length_append, HLL.out.2.1, HLL.out.2.2]; exact HL5.out) HO5.out).grow HCw6.out) (by have := HL.out; omega) HPA.out).mono ?_
        rintro e w7 ⟨rfl, hg7⟩
        have H7 := Lib.hid (Grows.trans H3.out.2.2.2 (Grows.trans (Grows.trans HB5.out HCw6.out) hg7))
        clear hg7
        go_wp2_with (fail)
        go_ret
        exact ⟨rfl, Below.trans HG.out (Below.mono H7.out HG.out.size)⟩
      · have hl11 : ini.length + 1 = l1 := by have := HLL.out.2.1; rw [hP1] at this; simpa using this
        obtain ⟨e1, he1⟩ : ∃ e1, ini.length = e1 := ⟨_, rfl⟩
        rw [he1] at hl11
        subst hl11
        have h0 : (0 : Int) < ((e1 + 1 : Nat) : Int) := by omega
        have h0' : (0 : Int) < (e1 : Int) + 1 := by omega
        rcases hP2 : P2 with _ | ⟨q, qs⟩
        · have hl20 : l2 = 0 := by have := HLL.out.2.2; rw [hP2] at this; simpa using this.symm
          have HPA : Hid (PA = P1 ++ P2) := Lib.hid (by
            rcases HJ.out with ⟨ini, p, q, qs, _, h, _⟩ | ⟨h, _⟩
            · rw [hP2] at h; simp at h
            · exact h)
          clear hP1 hP2 he1
          subst hl20
          refine q_region mixed (by kernel_rfl) ?_
          iterate 9 (refine q_op' (v := ?_) (a' := ?_) (by rfl) ?_ ?_ ?_
                     rotate_left 2
                     · intro w' hC
                       clear hC
                       go_simp
                       try with_reducible rfl
                     · simp only [Act.put, List.setIfInBounds_toArray, List.set_cons_zero, List.set_cons_succ]
                       try rfl)
          iterate 12 (refine q_skip' (a' := ?_) (by rfl) ?_ ?_
                      rotate_left 1
                      · simp only [Act.put, List.setIfInBounds_toArray, List.set_cons_zero, List.set_cons_succ]
                        try rfl)
          iterate 1 (refine q_op' (v := ?_) (a' := ?_) (by rfl) ?_ ?_ ?_
                     rotate_left 2
                     · intro w' hC
                       clear hC
                       go_simp
                       try with_reducible rfl
                     · simp only [Act.put, List.setIfInBounds_toArray, List.set_cons_zero, List.set_cons_succ]
                       try rfl)
          refine wpQuiet_nil ?_
          intro w6 hC
          have HCw6 := Lib.hid hC
          clear hC
          go_wp2_with (fail)
          refine (same_true _ _ _ _ _ _ PA (P1 ++ P2) w6 (H3.out.1.grow (Grows.trans HB5.out HCw6.out)) ((Pts.owned (by rw [List.length_append, HLL.out.2.1, HLL.out.2.2]; exact HL5.out) HO5.out).grow HCw6.out) (by have := HL.out; omega) HPA.out).mono ?_
          rintro e w7 ⟨rfl, hg7⟩
          have H7 := Lib.hid (Grows.trans H3.out.2.2.2 (Grows.trans (Grows.trans HB5.out HCw6.out) hg7))
          clear hg7
          go_wp2_with (fail)
          go_ret
          exact ⟨rfl, Below.trans HG.out (Below.mono H7.out HG.out.size)⟩
        · have hl21 : qs.length + 1 = l2 := by have := HLL.out.2.2; rw [hP2] at this; simpa using this
          obtain ⟨e2, he2⟩ : ∃ e2, qs.length = e2 := ⟨_, rfl⟩
          rw [he2] at hl21
          subst hl21
          obtain ⟨ad1, p', rfl, hp', hb1, x0, x1, x2⟩ := H3.out.2.1.get (show e1 < e1 + 1 by omega)
          obtain ⟨ad2, q', rfl, hq', hb2, y0, y1, y2⟩ := H3.out.2.2.1.get (show 0 < e2 + 1 by omega)
          obtain rfl : p = p' := by
            rw [hP1, List.getElem?_append_right (by omega), he1, Nat.sub_self] at hp'
            simpa using hp'
          obtain rfl : q = q' := by
            rw [hP2] at hq'
            simpa using hq'
          have HPP := Lib.hid (And.intro hP1 (And.intro hP2 (And.intro he1 he2)))
          obtain ⟨p0, p1, p2⟩ := p
          obtain ⟨q0, q1, q2⟩ := q
          dsimp only at x0 x1 x2 y0 y1 y2
          rw [Nat.zero_mul, show ad2.add 0 = ad2 from rfl] at y0 y1 y2
          have up : ∀ {a : Addr} {v : Value}, w3.cell? a = some v → ∀ w', Grows w5 w' → w'.cell? a = some v := fun {a v} h w' hg => ((Grows.trans HB5.out hg).cell (World.block_lt_of_cell? w3 _ h)).trans h
          have HC := Lib.hid (And.intro (up x0) (And.intro (up y0) (up y2)))
          clear hp' hq' hb1 hb2 x0 x1 x2 y0 y1 y2 hP1 hP2 he1 he2 up
          have g0 : (0 : Int) < ((e2 + 1 : Nat) : Int) := by omega
          have g0' : (0 : Int) < (e2 : Int) + 1 := by omega
          obtain ⟨u1, u2, u3, u4, u5, u6⟩ := less_one e1 (by have := HL.out.2.1; omega)
          clear k1a k1b k1c k1d k2a k2b k2c k2d k3 k4 k5 k6 k7 k8 k9 k10 hk
          by_cases hpq : p0 = q0
          · subst hpq
            have HPQ : Hid (PA = ini ++ [(p0, p1, q2)] ++ qs) := Lib.hid (by
              rcases HJ.out with ⟨ini', p, q, qs', h1, h2, h3, h4⟩ | ⟨_, h⟩
              · rw [HPP.out.1] at h1
                rw [HPP.out.2.1] at h2
                injection h2 with h2 h2'
                have h5 := List.append_inj' h1 rfl
                injection h5.2 with h5' _
                rw [h4, ← h2, ← h2', ← h5.1, ← h5']
              · exact absurd (show ((p0, p1, p2) : Pt).1 = ((p0, q1, q2) : Pt).1 from rfl) (h ini (p0, p1, p2) (p0, q1, q2) qs HPP.out.1 HPP.out.2.1))
            refine q_region mixed (by kernel_rfl) ?_
            iterate 22 (refine q_op' (v := ?_) (a' := ?_) (by rfl) ?_ ?_ ?_
                        rotate_left 2
                        · intro w' hC
                          obtain ⟨z0, z1, z2⟩ := HC.out
                          have s0 := z0 w' hC
                          have s1 := z1 w' hC
                          clear z0 z1 z2
                          clear hC
                          go_simp
                          try with_reducible rfl
                        · simp only [Act.put, List.setIfInBounds_toArray, List.set_cons_zero, List.set_cons_succ]
                          try rfl)
            refine wpQuiet_nil ?_
            intro w6 hC
            have HCw6 := Lib.hid hC
            clear hC
            go_wp2_with (fail)
            have HC6 := Lib.hid (And.intro (H3.out.2.1.grow (Grows.trans HB5.out HCw6.out)) (And.intro (H3.out.2.2.1.grow (Grows.trans HB5.out HCw6.out)) (show ∀ w', Grows w6 w' → w'.cell? { block := ad2.block, off := ad2.off + 2 } = some (.int .i64 q2) from fun w' hg => HC.out.2.2 w' (Grows.trans HCw6.out hg))))
            have HL12 := Lib.hid (And.intro (HL.out.2.1) HL.out.2.2)
            by_cases hc3 : c3 = 1
            · have he20 : e2 = 0 := by have := HC6.out.2.1.cap; omega
              subst he20
              subst hc3
              have hc3 : True := trivial
              have HC3 := Lib.hid hc3
              have HCC := Lib.hid True.intro
              refine wp_region_facts_tail (E := Grows) 5 [blkFact 40 #[] 0, valFact (.slice (some ad1) (e1 + 1) c2), ptsFact w6.heap.size (e1 + 1) P1, valFact (.slice (some ad2) (0 + 1) 1), valFact (.slice (some ad2) 0 0)] mixed (by kernel_rfl) (fun _ _ _ => Grows.trans) (grows_drew _) ?_
              simp only [List.take_succ_cons, List.take_zero, List.drop_succ_cons, List.drop_zero]
              refine f_made 40 #[] 0 (by rfl) (by intro w' hC; clear hC; go_simp) ?_
              intro g
              simp only [Act.put, List.setIfInBounds_toArray, List.set_cons_zero, List.set_cons_succ]
              refine f_val (.slice (some ad1) (e1 + 1) c2) (by rfl) (by intro w' hC; clear hC; go_simp) ?_
              simp only [Act.put, List.setIfInBounds_toArray, List.set_cons_zero, List.set_cons_succ]
              refine f_gen (F := ptsFact w6.heap.size (e1 + 1) P1) (by rfl) ?_ ?_
              · intro w' hC hk
                obtain ⟨A', c', w'', hr, hg, ho⟩ := append_lit (ty := 33) (base := w6.heap.size) (Known.get hk 0 rfl rfl) (HC6.out.1.grow hC) (by have := HL12.out; omega) hC.size
                exact ⟨(A', c'), w'', exec_app (s := .tmp 98) (x := .tmp 99) rfl rfl rfl hr, hg, ho⟩
              rintro ⟨A7, c7⟩
              dsimp only [ptsFact]
              simp only [Act.put, List.setIfInBounds_toArray, List.set_cons_zero, List.set_cons_succ]
              refine f_val (.slice (some ad2) (0 + 1) 1) (by rfl) (by intro w' hC; clear hC; go_simp) ?_
              simp only [Act.put, List.setIfInBounds_toArray, List.set_cons_zero, List.set_cons_succ]
              refine f_val (.slice (some ad2) 0 0) (by rfl) ?_ ?_
              · intro w' hC; clear hC; go_simp
              simp only [Act.put, List.setIfInBounds_toArray, List.set_cons_zero, List.set_cons_succ]
              refine wpF_end ?_
              intro w7 hC hks
              have HC7 := Lib.hid hC
              have HO7 := Lib.hid (Known.at hks 0 rfl)
              clear hC hks
              have hqs : qs = [] := List.eq_nil_of_length_eq_zero HPP.out.2.2.2
              have HQS := Lib.hid (show Row w7 w7.heap.size (some ad2) (3 * 0) (ptC qs) from by rw [hqs]; exact Row.nil _ _ _)
              clear hqs
              obtain ⟨N, hN⟩ : ∃ N, e1 + 1 + 0 = N := ⟨_, rfl⟩
              have HN := Lib.hid hN
              clear hN
              refine list_append_at rfl (.tmp 100) (.tmp 102) 33 rfl w6.heap.size 40 i0 (.agg #[.int .i64 0, .int .i64 0, .int .i64 0]) 3 24 Try.underlying33 HI.out.1 HI.out.2.1 HI.out.2.2.1 HI.out.2.2.2 rfl (by decide) rfl
                HO7.out (news := ptC qs) rfl HQS.out (fun h => by cases h) (ptC_one qs) N HN.out (by unfold maxLen; have := HL12.out; have := HN.out; omega) (by have := HL12.out; have := HN.out; omega) HC7.out.size ?_
              intro A8 c8 w8 ho8 hg8 hd8
              have hb8 : Below w6.heap.size w6 w8 := Below.trans HC7.out (below_append (Below.refl w6.heap.size _) hg8 HC7.out.size fun g hg => (owned_lt3 HO7.out hg).1)
              rw [HPP.out.1] at ho8
              obtain ⟨g8, cap8, hval, _, hlt8⟩ := ho8.form (by have := HN.out; omega)
              injection hval with hA _ hcap
              subst hA hcap
              have hge := (owned_lt3 ho8 (k := g8) (by simp [Value.ownBlock])).1
              obtain ⟨ad8, had8⟩ : ∃ ad8 : Addr, (⟨g8, 0, none⟩ : Addr) = ad8 := ⟨_, rfl⟩
              have hadd : ∀ k, ad8.add k = ⟨g8, k, none⟩ := fun k => by rw [← had8]; unfold Addr.add; split <;> simp_all
              have hst := ho8.stored (e1 * 3 + 2) (.int .i64 q2)
              have hc8 : w8.cell? { block := (ad8.add (e1 * 3)).block, off := (ad8.add (e1 * 3)).off + 2 } = some (.int .i64 p2) := by
                rw [hadd]
                refine (ho8.cellAt (e1 * 3 + 2) (by have := HN.out; omega)).trans ?_
                rw [List.getElem?_append_left (by rw [ptC_length, List.length_append, HPP.out.2.2.1, List.length_singleton]; omega), Nat.mul_comm]
                exact (ptC_get (ini ++ [(p0, p1, p2)]) e1 (p0, p1, p2) (by rw [List.getElem?_append_right (by rw [HPP.out.2.2.1]; exact Nat.le_refl _), HPP.out.2.2.1, Nat.sub_self]; rfl)).2.2
              have hf8 : w8.frozen? { block := (ad8.add (e1 * 3)).block, off := (ad8.add (e1 * 3)).off + 2 } = false := by
                rw [hadd]
                exact ho8.frozenAt (e1 * 3 + 2)
              have hy8 := HC6.out.2.2 w8 hb8
              obtain ⟨w9, hw9⟩ : ∃ w9, w8.setCell { block := (ad8.add (e1 * 3)).block, off := (ad8.add (e1 * 3)).off + 2 } (.int .i64 q2) = w9 := ⟨_, rfl⟩
              have hw9' : w8.setCell ⟨g8, e1 * 3 + 2, none⟩ (.int .i64 q2) = w9 := by rw [← hw9, hadd]
              rw [hw9', ptC_set ini qs p0 p1 p2 q2 e1 HPP.out.2.2.1, had8] at hst
              have HB9 := Lib.hid (show Grows w6 w9 from Below.trans hb8 ((Below.refl w6.heap.size _).grown hst.2 hb8.size fun g hg => by injection hg with hg; rw [← hg]; exact hge))
              have HO9 := Lib.hid hst.1
              have HX9 := Lib.hid hw9
              have u7 : (e1 : Int) < (N : Int) := by have := HN.out; omega
              rw [had8]
              clear ho8 hg8 hd8 hb8 hlt8 hge had8 hadd hst hw9 hw9'
              simp only [Act.put, List.setIfInBounds_toArray, List.set_cons_zero, List.set_cons_succ]
              go_wp2_with (first | rw [HX9.out] | fail)
              have hpa : Pts w9 A1 la c1 PA := H3.out.1.grow (Grows.trans HB5.out (Grows.trans HCw6.out HB9.out))
              have hlen9 : (ini ++ [(p0, p1, q2)] ++ qs).length = N := by rw [List.length_append, List.length_append, HPP.out.2.2.1, HPP.out.2.2.2]; exact HN.out
              have hpb := Pts.owned hlen9 HO9.out
              have hsame := same_true A1 la c1 _ _ _ PA (ini ++ [(p0, p1, q2)] ++ qs) w9 hpa hpb (by have := HL.out; omega) HPQ.out
              clear hpa hlen9 hpb
              refine hsame.mono ?_
              clear hsame
              rintro e w10 ⟨rfl, hg10⟩
              have H10 := Lib.hid (Grows.trans H3.out.2.2.2 (Grows.trans HB5.out (Grows.trans HCw6.out (Grows.trans HB9.out hg10))))
              clear hg10
              go_wp2_with (fail)
              go_ret
              exact ⟨rfl, Below.trans HG.out (Below.mono H10.out HG.out.size)⟩
            · have hcc : (1 : Int) ≤ ((e2 + 1 : Nat) : Int) ∧ ((e2 + 1 : Nat) : Int) ≤ (c3 : Int) := by have := HC6.out.2.1.cap; omega
              obtain ⟨hcc1, hcc2⟩ := hcc
              have HC3 := Lib.hid hc3
              have HCC := Lib.hid (show ¬ ((e2 : Int) + 1 < 1) by omega)
              refine wp_region_facts_tail (E := Grows) 5 [blkFact 40 #[] 0, valFact (.slice (some ad1) (e1 + 1) c2), ptsFact w6.heap.size (e1 + 1) P1, valFact (.slice (some ad2) (e2 + 1) c3), valFact (.slice (some (ad2.add 3)) e2 (c3 - 1))] mixed (by kernel_rfl) (fun _ _ _ => Grows.trans) (grows_drew _) ?_
              simp only [List.take_succ_cons, List.take_zero, List.drop_succ_cons, List.drop_zero]
              refine f_made 40 #[] 0 (by rfl) (by intro w' hC; clear hC; go_simp) ?_
              intro g
              simp only [Act.put, List.setIfInBounds_toArray, List.set_cons_zero, List.set_cons_succ]
              refine f_val (.slice (some ad1) (e1 + 1) c2) (by rfl) (by intro w' hC; clear hC; go_simp) ?_
              simp only [Act.put, List.setIfInBounds_toArray, List.set_cons_zero, List.set_cons_succ]
              refine f_gen (F := ptsFact w6.heap.size (e1 + 1) P1) (by rfl) ?_ ?_
              · intro w' hC hk
                obtain ⟨A', c', w'', hr, hg, ho⟩ := append_lit (ty := 33) (base := w6.heap.size) (Known.get hk 0 rfl rfl) (HC6.out.1.grow hC) (by have := HL12.out; omega) hC.size
                exact ⟨(A', c'), w'', exec_app (s := .tmp 98) (x := .tmp 99) rfl rfl rfl hr, hg, ho⟩
              rintro ⟨A7, c7⟩
              dsimp only [ptsFact]
              simp only [Act.put, List.setIfInBounds_toArray, List.set_cons_zero, List.set_cons_succ]
              refine f_val (.slice (some ad2) (e2 + 1) c3) (by rfl) (by intro w' hC; clear hC; go_simp) ?_
              simp only [Act.put, List.setIfInBounds_toArray, List.set_cons_zero, List.set_cons_succ]
              refine f_val (.slice (some (ad2.add 3)) e2 (c3 - 1)) (by rfl) ?_ ?_
              · intro w' hC; have hne1 := HC3.out; have hz := HCC.out; clear hC; go_simp
              simp only [Act.put, List.setIfInBounds_toArray, List.set_cons_zero, List.set_cons_succ]
              refine wpF_end ?_
              intro w7 hC hks
              have HC7 := Lib.hid hC
              have HO7 := Lib.hid (Known.at hks 0 rfl)
              clear hC hks
              have HQS := Lib.hid (show Row w7 w7.heap.size (some (ad2.add 3)) (3 * e2) (ptC qs) from by have h := HC6.out.2.1.grow HC7.out; rw [HPP.out.2.1] at h; exact h.behind HC3.out)
              obtain ⟨N, hN⟩ : ∃ N, e1 + 1 + e2 = N := ⟨_, rfl⟩
              have HN := Lib.hid hN
              clear hN
              refine list_append_at rfl (.tmp 100) (.tmp 102) 33 rfl w6.heap.size 40 i0 (.agg #[.int .i64 0, .int .i64 0, .int .i64 0]) 3 24 Try.underlying33 HI.out.1 HI.out.2.1 HI.out.2.2.1 HI.out.2.2.2 rfl (by decide) rfl
                HO7.out (news := ptC qs) rfl HQS.out (fun h => by cases h) (ptC_one qs) N HN.out (by unfold maxLen; have := HL12.out; have := HN.out; omega) (by have := HL12.out; have := HN.out; omega) HC7.out.size ?_
              intro A8 c8 w8 ho8 hg8 hd8
              have hb8 : Below w6.heap.size w6 w8 := Below.trans HC7.out (below_append (Below.refl w6.heap.size _) hg8 HC7.out.size fun g hg => (owned_lt3 HO7.out hg).1)
              rw [HPP.out.1] at ho8
              obtain ⟨g8, cap8, hval, _, hlt8⟩ := ho8.form (by have := HN.out; omega)
              injection hval with hA _ hcap
              subst hA hcap
              have hge := (owned_lt3 ho8 (k := g8) (by simp [Value.ownBlock])).1
              obtain ⟨ad8, had8⟩ : ∃ ad8 : Addr, (⟨g8, 0, none⟩ : Addr) = ad8 := ⟨_, rfl⟩
              have hadd : ∀ k, ad8.add k = ⟨g8, k, none⟩ := fun k => by rw [← had8]; unfold Addr.add; split <;> simp_all
              have hst := ho8.stored (e1 * 3 + 2) (.int .i64 q2)
              have hc8 : w8.cell? { block := (ad8.add (e1 * 3)).block, off := (ad8.add (e1 * 3)).off + 2 } = some (.int .i64 p2) := by
                rw [hadd]
                refine (ho8.cellAt (e1 * 3 + 2) (by have := HN.out; omega)).trans ?_
                rw [List.getElem?_append_left (by rw [ptC_length, List.length_append, HPP.out.2.2.1, List.length_singleton]; omega), Nat.mul_comm]
                exact (ptC_get (ini ++ [(p0, p1, p2)]) e1 (p0, p1, p2) (by rw [List.getElem?_append_right (by rw [HPP.out.2.2.1]; exact Nat.le_refl _), HPP.out.2.2.1, Nat.sub_self]; rfl)).2.2
              have hf8 : w8.frozen? { block := (ad8.add (e1 * 3)).block, off := (ad8.add (e1 * 3)).off + 2 } = false := by
                rw [hadd]
                exact ho8.frozenAt (e1 * 3 + 2)
              have hy8 := HC6.out.2.2 w8 hb8
              obtain ⟨w9, hw9⟩ : ∃ w9, w8.setCell { block := (ad8.add (e1 * 3)).block, off := (ad8.add (e1 * 3)).off + 2 } (.int .i64 q2) = w9 := ⟨_, rfl⟩
              have hw9' : w8.setCell ⟨g8, e1 * 3 + 2, none⟩ (.int .i64 q2) = w9 := by rw [← hw9, hadd]
              rw [hw9', ptC_set ini qs p0 p1 p2 q2 e1 HPP.out.2.2.1, had8] at hst
              have HB9 := Lib.hid (show Grows w6 w9 from Below.trans hb8 ((Below.refl w6.heap.size _).grown hst.2 hb8.size fun g hg => by injection hg with hg; rw [← hg]; exact hge))
              have HO9 := Lib.hid hst.1
              have HX9 := Lib.hid hw9
              have u7 : (e1 : Int) < (N : Int) := by have := HN.out; omega
              rw [had8]
              clear ho8 hg8 hd8 hb8 hlt8 hge had8 hadd hst hw9 hw9'
              simp only [Act.put, List.setIfInBounds_toArray, List.set_cons_zero, List.set_cons_succ]
              go_wp2_with (first | rw [HX9.out] | fail)
              have hpa : Pts w9 A1 la c1 PA := H3.out.1.grow (Grows.trans HB5.out (Grows.trans HCw6.out HB9.out))
              have hlen9 : (ini ++ [(p0, p1, q2)] ++ qs).length = N := by rw [List.length_append, List.length_append, HPP.out.2.2.1, HPP.out.2.2.2]; exact HN.out
              have hpb := Pts.owned hlen9 HO9.out
              have hsame := same_true A1 la c1 _ _ _ PA (ini ++ [(p0, p1, q2)] ++ qs) w9 hpa hpb (by have := HL.out; omega) HPQ.out
              clear hpa hlen9 hpb
              refine hsame.mono ?_
              clear hsame
              rintro e w10 ⟨rfl, hg10⟩
              have H10 := Lib.hid (Grows.trans H3.out.2.2.2 (Grows.trans HB5.out (Grows.trans HCw6.out (Grows.trans HB9.out hg10))))
              clear hg10
              go_wp2_with (fail)
              go_ret
              exact ⟨rfl, Below.trans HG.out (Below.mono H10.out HG.out.size)⟩
          · have hpf : (p0 == q0) = false := by rw [beq_eq_false_iff_ne]; exact hpq
            have HPA : Hid (PA = P1 ++ P2) := Lib.hid (by
              rcases HJ.out with ⟨ini', p, q, qs', h1, h2, h3, _⟩ | ⟨h, _⟩
              · rw [HPP.out.1] at h1
                rw [HPP.out.2.1] at h2
                injection h2 with h2 _
                have h5 := List.append_inj' h1 rfl
                injection h5.2 with h5 _
                rw [← h2, ← h5] at h3
                exact absurd h3 hpq
              · exact h)
            clear hpq
            refine q_region mixed (by kernel_rfl) ?_
            iterate 22 (refine q_op' (v := ?_) (a' := ?_) (by rfl) ?_ ?_ ?_
                        rotate_left 2
                        · intro w' hC
                          obtain ⟨z0, z1, z2⟩ := HC.out
                          have s0 := z0 w' hC
                          have s1 := z1 w' hC
                          clear z0 z1 z2
                          clear hC
                          go_simp
                          try with_reducible rfl
                        · simp only [Act.put, List.setIfInBounds_toArray, List.set_cons_zero, List.set_cons_succ]
                          try rfl)
            refine wpQuiet_nil ?_
            intro w6 hC
            have HCw6 := Lib.hid hC
            clear hC
            go_wp2_with (fail)
            refine (same_true _ _ _ _ _ _ PA (P1 ++ P2) w6 (H3.out.1.grow (Grows.trans HB5.out HCw6.out)) ((Pts.owned (by rw [List.length_append, HLL.out.2.1, HLL.out.2.2]; exact HL5.out) HO5.out).grow HCw6.out) (by have := HL.out; omega) HPA.out).mono ?_
            rintro e w7 ⟨rfl, hg7⟩
            have H7 := Lib.hid (Grows.trans H3.out.2.2.2 (Grows.trans (Grows.trans HB5.out HCw6.out) hg7))
            clear hg7
            go_wp2_with (fail)
            go_ret
            exact ⟨rfl, Below.trans HG.out (Below.mono H7.out HG.out.size)⟩

set_option maxRecDepth 100000 in
theorem spanParted_lifted (os : Os) (started : os.Started) (H : Type) (enc : TypeId × Value → H) :
    ReturnsInHanded {} Try.checked os 6 .any (Rows.spanPartedSpec.pre6 enc Try.prog Try.f6 Rows.spanPartedRow.domain false) (Rows.spanPartedSpec.post enc Try.prog Try.f6 false true false false) := by
  refine lift_law (C := Try.checked) H enc own started (by kernel_rfl) Try.func6
    (ChangeSpec.witness6 (enc := enc) (C := Try.checked) false ⟨#[], #[.slice none 0 0, .int .u16 0, .int .u16 0, .int .u16 0], []⟩ 16 (by kernel_rfl) (by kernel_rfl) (by kernel_rfl) (by kernel_rfl))
    laidOut (of_readable (by kernel_rfl)) rfl Try.underlying4 rfl (fun ds hd => ?_) (fun W base args ds p hval hA hsz => ?_)
  · match ds, hd with
    | [d1, d2, d3, d4], _ => rfl
  · rw [Try.params6] at hA hval hsz
    obtain ⟨v0, vs0, d0, ds0, p0, q0, hargs, rfl, rfl, h0, r0⟩ := trodAll_cons hA
    obtain ⟨v1, vs1, d1, ds1, p1, q1, rfl, rfl, rfl, h1, r1⟩ := trodAll_cons r0
    obtain ⟨v2, vs2, d2, ds2, p2, q2, rfl, rfl, rfl, h2, r2⟩ := trodAll_cons r1
    obtain ⟨v3, vs3, d3, ds3, p3, q3, rfl, rfl, rfl, h3, r3⟩ := trodAll_cons r2
    obtain ⟨rfl, rfl, rfl⟩ := trodAll_nil r3
    obtain rfl : args = #[v0, v1, v2, v3] := by cases args; simp_all
    obtain ⟨A0, n0, c0, xs0, rfl, hx0⟩ := open_bytes Try.underlying38 Try.underlying5 (by kernel_rfl) (by kernel_rfl) (hval 0 38 v0 rfl rfl) h0 hsz (j := 0) rfl rfl
    obtain ⟨a1, rfl, _, _, w1⟩ := open_int Try.underlying42 (hval 1 42 v1 rfl rfl) h1
    have b1 := bounds_u16 w1
    obtain ⟨a2, rfl, _, _, w2⟩ := open_int Try.underlying42 (hval 2 42 v2 rfl rfl) h2
    have b2 := bounds_u16 w2
    obtain ⟨a3, rfl, _, _, w3⟩ := open_int Try.underlying42 (hval 3 42 v3 rfl rfl) h3
    have b3 := bounds_u16 w3
    exact spanParted_law W A0 n0 c0 xs0 hx0 a1 (by omega) a2 (by omega) a3 (by omega)

theorem spanParted_over : Rows.spanPartedRow.holds Try.pinned (OpenSpec.ofChange Rows.spanPartedSpec) :=
  OpenClaim.holds_of_wide 6 Try.f6 rfl rfl rfl rfl rfl rfl rfl ⟨rfl, rfl, rfl, rfl, rfl⟩ rfl rfl rfl rfl rfl (by kernel_rfl) Try.func6 (by kernel_rfl)
    (of_decide_eq_true (by kernel_rfl)) (by unfold Func.isWrapper; first | (rw [if_pos (by decide +kernel)]; kernel_rfl) | (rw [if_neg (by decide +kernel)]; exact ⟨rfl, rfl⟩))
    (fun os started H enc _ => spanParted_lifted os started H enc)
theorem spanParted_holds : Rows.SpanPartedSaid := spanParted_over
end Go.Proofs.Ytfopiifchcaciaa
