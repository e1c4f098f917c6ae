/-
  Statement SpanEnds: a range that begins where all end, and one of nothing, has no parts; of all bytes it has each piece, whole. Every list of bytes as sizes, every off, no condition.
-/
import Derived.Test.YtfopiifchcaciaaSpMore
import Derived.ProofKit
import Derived.ChangeOld
namespace Go.Proofs.Ytfopiifchcaciaa
open Go.ChangeShapes Go.WideShapes Go.ChangeAt Go.RowKit
set_option linter.unusedSimpArgs false
set_option linter.unusedVariables false
set_option maxRecDepth 100000 in
set_option maxHeartbeats 8000000 in
theorem spanEnds_law (w : World) (A : Option Addr) (n c : Nat) (bs : List UInt8) (hx : Came w A n c bs) (off : Int) (ho : 0 ≤ off ∧ off < 65536) :
    Calls Try.prog 7 #[.slice A n c, .int .u16 off] w fun e w' => e = .returned (.bool true) ∧ Below w.heap.size w w' := by
  have HX := Lib.hid hx
  have HOF := Lib.hid ho
  have hlb : bs.length = n := hx.sl.len
  have HLB := Lib.hid hlb
  clear hx ho hlb
  go_enter Try.func7, Try.ntmps7
  go_wp2_with (fail)
  refine (head7_any w).mono ?_
  rintro e w0 ⟨rfl, hb0⟩
  have HG0 := Lib.hid hb0
  clear hb0
  by_cases hbig : (200 : Int) < (n : Int)
  · go_wp2_with (fail)
    go_ret
    exact ⟨rfl, HG0.out⟩
  obtain ⟨xs, hxs⟩ : ∃ xs, sizesOf bs = xs := ⟨_, rfl⟩
  have HXS := Lib.hid hxs
  have HR : Hid (rightP xs = true) := Lib.hid (by rw [← hxs]; exact sizesOf_right bs (by have := HLB.out; omega))
  have HLX : Hid (xs.length = n) := Lib.hid (by rw [← hxs, sizesOf_len]; exact HLB.out)
  obtain ⟨i0, hi0, hz0, hz1, hz2⟩ := info_parts infoPart
  have HI := Lib.hid (And.intro hi0 (And.intro hz0 (And.intro hz1 hz2)))
  obtain ⟨i1, hi0', hz0', hz1', hz2'⟩ := info_parts infoI
  have HI1 := Lib.hid (And.intro hi0' (And.intro hz0' (And.intro hz1' hz2')))
  clear hxs hi0 hz0 hz1 hz2 hi0' hz0' hz1' hz2'
  go_wp2_with (fail)
  go_loopw [6, 7, 8] (fun s o i wr => ∃ (SA OA : Option Addr) (sc oc j : Nat), j ≤ n ∧ s = .slice SA j sc ∧ o = .slice OA j oc ∧ i = .int .i64 (j : Int) ∧ Hid (wr.ownsRow w0.heap.size 3 1 (.slice SA j sc) j ((xs.take j).map iV)) ∧
    Hid (wr.ownsRow w0.heap.size 40 3 (.slice OA j oc) j (ptC (wholeP 0 (xs.take j)))) ∧ Hid (Below w0.heap.size w0 wr)) (fun _ _ i _ => n - (intOf i).toNat)
  case atStart => exact ⟨none, none, 0, 0, 0, by omega, rfl, rfl, rfl, Lib.hid (World.ownsRow_nil _ _ _ _), Lib.hid (World.ownsRow_nil _ _ _ _), Lib.hid (Below.refl _ _)⟩
  case round =>
    obtain ⟨SA, OA, sc, oc, j, hj, rfl, rfl, rfl, HS, HO, HB⟩ := hrel
    by_cases hlt : j < n
    · obtain ⟨ad, rfl, hblk, hc0⟩ := HX.out.bytes.spot hlt
      obtain ⟨y, hy⟩ : ∃ y, (bs.getD j 0).toNat = y := ⟨_, rfl⟩
      have hy2 : y < 256 := by rw [← hy]; exact UInt8.toNat_lt _
      rw [hy] at hc0
      have hcw : wr.cell? (ad.add j) = some (.int .u8 (y : Nat)) := ((Below.trans HG0.out (Below.mono HB.out HG0.out.size)).cell (by rw [add_block]; exact hblk)).trans hc0
      have HN := Lib.hid (sizesOf_next bs j (by have := HLB.out; omega))
      rw [HXS.out, hy] at HN
      have k1 : IntKind.i64.wrap (y : Int) = (y : Int) := IntWalk.i64_in _ (by omega)
      have k2 : wrap64 (y : Int) = (y : Int) := IntWalk.wrap64_in _ (by omega)
      obtain ⟨x, hx⟩ : ∃ x : Int, 1 + (y : Int) = x := ⟨_, rfl⟩
      rw [hx] at HN
      have k3 : IntKind.i64.wrap (1 + (y : Int)) = x := (IntWalk.i64_in _ (by omega)).trans hx
      have k4 : wrap64 (1 + (y : Int)) = x := (IntWalk.wrap64_in _ (by omega)).trans hx
      have i0' : (0 : Int) ≤ (j : Int) := by omega
      have i1' : (j : Int) < (n : Int) := by omega
      have i2' : (j : Int) < ((j + 1 : Nat) : Int) := by omega
      have ii : IntKind.i64.wrap ((j : Int) + 1) = (j : Int) + 1 := IntWalk.i64_in _ (by omega)
      have hju : (xs.take j).length = j := by rw [List.length_take, HLX.out]; omega
      have HJU := Lib.hid hju
      clear hblk hc0 hy hx hju
      go_wp2_with (first
        | (at_builtin
           refine list_append_at rfl (.tmp 22) (.tmp 29) 28 rfl w0.heap.size 3 i1 (.int .i64 0) 1 8 Try.underlying28 HI1.out.1 HI1.out.2.1 HI1.out.2.2.1 HI1.out.2.2.2 rfl (by decide) rfl
             (owned_grow HS.out (grows_alloc _ _)) (A := some ⟨wr.heap.size, 0, none⟩) (m := 1) (c := 1) (B := (wr.alloc (.cells #[.int .i64 x] 3)).heap.size) (news := [iV x]) rfl
             (row_lit (Whole.made wr 3 #[.int .i64 x]) [iV x] rfl rfl) (fun h => by cases h) (by intro u hu; rw [List.mem_singleton.1 hu]; rfl) (j + 1) rfl (by unfold maxLen; omega) (by omega) (by rw [World.size_alloc]; have := HB.out.size; omega) ?_
           intro A1 c1 w1 ho1 hg1 hd1
           obtain ⟨ad1, rfl, hb1, hcell1⟩ := own_last ho1
           have HB1 := Lib.hid (Below.trans HB.out (Below.trans (Below.mono (grows_alloc wr (.cells #[.int .i64 x] 3)) HB.out.size) (below_append (Below.refl w0.heap.size _) hg1 (by rw [World.size_alloc]; have := HB.out.size; omega) fun g hg => (owned_lt3 HS.out hg).1)))
           have HO1 := Lib.hid (own_unlike (owned_grow HO.out (grows_alloc _ _)) (owned_grow HS.out (grows_alloc _ _)) (by decide) hg1)
           have HS1 := Lib.hid ho1
           have hcell1' : w1.cell? (ad1.add j) = some (.int .i64 x) := hcell1
           clear ho1 hg1 hd1 hb1 hcell1)
        | (at_builtin
           refine list_append_at rfl (.tmp 31) (.tmp 38) 33 rfl w0.heap.size 40 i0 (.agg #[.int .i64 0, .int .i64 0, .int .i64 0]) 3 24 Try.underlying33 HI.out.1 HI.out.2.1 HI.out.2.2.1 HI.out.2.2.2 rfl (by decide) rfl
             (owned_grow HO1.out (grows_alloc _ _)) (A := some ⟨w1.heap.size, 0, none⟩) (m := 1) (c := 1) (B := (w1.alloc (.cells #[.int .i64 (j : Int), .int .i64 0, .int .i64 x] 40)).heap.size) (news := ptV ((j : Int), 0, x)) rfl
             (row_lit (Whole.made w1 40 #[.int .i64 (j : Int), .int .i64 0, .int .i64 x]) _ rfl rfl) (fun h => by cases h) (ptV_one _) (j + 1) rfl (by unfold maxLen; omega) (by omega) (by rw [World.size_alloc]; have := HB1.out.size; omega) ?_
           intro A2 c2 w2 ho2 hg2 hd2
           have HB2 := Lib.hid (Below.trans HB1.out (Below.trans (Below.mono (grows_alloc w1 (.cells #[.int .i64 (j : Int), .int .i64 0, .int .i64 x] 40)) HB1.out.size) (below_append (Below.refl w0.heap.size _) hg2 (by rw [World.size_alloc]; have := HB1.out.size; omega) fun g hg => (owned_lt3 HO1.out hg).1)))
           have HS2 := Lib.hid (own_unlike (owned_grow HS1.out (grows_alloc _ _)) (owned_grow HO1.out (grows_alloc _ _)) (by decide) hg2)
           have HO2 := Lib.hid ho2
           clear ho2 hg2 hd2)
        | fail)
      exact ⟨⟨some ad1, A2, c1, c2, j + 1, by omega, rfl, rfl, rfl, Lib.hid (by rw [HN.out, List.map_append]; exact HS2.out), Lib.hid (by rw [HN.out, wholeP_snoc, HJU.out, Int.zero_add, ptC_snoc]; exact HO2.out), HB2⟩, by simp [intOf]; omega⟩
    · obtain rfl : j = n := by omega
      have htk : xs.take j = xs := List.take_of_length_le (by have := HLX.out; omega)
      rw [htk] at HS HO
      have HX2 := Lib.hid (Ints.owned HS.out)
      have HW2 := Lib.hid (Pts.owned (by rw [wholeP_length]; exact HLX.out) HO.out)
      have HG := Lib.hid (Below.trans HG0.out (Below.mono HB.out HG0.out.size))
      obtain ⟨T, hT⟩ : ∃ T, tot xs = T := ⟨_, rfl⟩
      have hTb := tot_right HR.out
      rw [hT] at hTb
      have hof := HOF.out
      obtain ⟨T1, hT1⟩ : ∃ T1, T + 1 = T1 := ⟨_, rfl⟩
      obtain ⟨k, hk⟩ : ∃ k, off.tmod T1 = k := ⟨_, rfl⟩
      have hk2 : off % T1 = k := by rw [← hk, Int.tmod_eq_emod_of_nonneg hof.1]
      have hkb : 0 ≤ k ∧ k ≤ T := by
        have h1 := Int.emod_nonneg off (b := T1) (by omega)
        have h2 := Int.emod_lt_of_pos off (b := T1) (by omega)
        omega
      have k1 : IntKind.i64.wrap off = off := IntWalk.i64_in _ (by omega)
      have k2 : wrap64 off = off := IntWalk.wrap64_in _ (by omega)
      have k3 : IntKind.i64.wrap (T + 1) = T1 := (IntWalk.i64_in _ (by omega)).trans hT1
      have k4 : wrap64 (T + 1) = T1 := (IntWalk.wrap64_in _ (by omega)).trans hT1
      have k5 : IntKind.i64.wrap k = k := IntWalk.i64_in _ (by omega)
      have k6 : wrap64 k = k := IntWalk.wrap64_in _ (by omega)
      have hne : ¬ T1 = 0 := by omega
      have E1 := Lib.hid (all_full HR.out T (by omega))
      have E2 := Lib.hid (all_full HR.out 1099511627776 (by omega))
      have E3 := Lib.hid (all_end HR.out 9 (by omega))
      have E4 := Lib.hid (all_none HR.out k (by omega))
      have E5 := Lib.hid (all_no HR.out T1 1 (by omega))
      have HSZ := Lib.hid (size_right HR.out)
      rw [hT] at E3 HSZ
      have HTB := Lib.hid (And.intro hTb (And.intro hkb hT1))
      have HWL := Lib.hid (wholeP_length xs 0)
      clear hTb hkb hof hT1 hT hk2 htk HS HO HB HOF
      go_wp2_with (fail)
      have hsz := size_any SA j sc xs wr HX2.out
      rw [HSZ.out] at hsz
      refine hsz.mono ?_
      clear hsz
      rintro e w1 ⟨rfl, rfl⟩
      go_wp2_with (fail)
      have hp1 := parts_of SA j sc xs 0 T wr HX2.out (by omega) (by have := HTB.out; omega)
      rw [E1.out] at hp1
      refine hp1.mono ?_
      clear hp1
      rintro e w1 ⟨A1, c1, rfl, ho1, hb1⟩
      rw [HWL.out, HLX.out] at ho1 ⊢
      have H1 := Lib.hid (And.intro (Pts.owned (by rw [wholeP_length]; exact HLX.out) ho1) hb1)
      clear ho1 hb1
      go_wp2_with (fail)
      refine (same_true _ _ _ _ _ _ _ _ w1 H1.out.1 (HW2.out.grow H1.out.2) (by omega) rfl).mono ?_
      rintro e w2 ⟨rfl, hg2⟩
      have H2 := Lib.hid (Grows.trans H1.out.2 hg2)
      clear hg2
      go_wp2_with (fail)
      have hp2 := parts_of SA j sc xs 0 1099511627776 w2 (HX2.out.grow H2.out) (by omega) (by omega)
      rw [E2.out] at hp2
      refine hp2.mono ?_
      clear hp2
      rintro e w3 ⟨A3, c3, rfl, ho3, hb3⟩
      rw [HWL.out, HLX.out] at ho3 ⊢
      have H3 := Lib.hid (And.intro (Pts.owned (by rw [wholeP_length]; exact HLX.out) ho3) (Grows.trans H2.out hb3))
      clear ho3 hb3
      go_wp2_with (fail)
      refine (same_true _ _ _ _ _ _ _ _ w3 H3.out.1 (HW2.out.grow H3.out.2) (by omega) rfl).mono ?_
      rintro e w4 ⟨rfl, hg4⟩
      have H4 := Lib.hid (Grows.trans H3.out.2 hg4)
      clear hg4
      go_wp2_with (fail)
      have hp3 := parts_of SA j sc xs T 9 w4 (HX2.out.grow H4.out) (by have := HTB.out; omega) (by omega)
      rw [E3.out] at hp3
      refine hp3.mono ?_
      clear hp3
      rintro e w5 ⟨A5, c5, rfl, ho5, hb5⟩
      have H5 := Lib.hid (Grows.trans H4.out hb5)
      clear ho5 hb5
      simp only [List.length_nil]
      go_wp2_with (fail)
      have hp4 := parts_of SA j sc xs k 0 w5 (HX2.out.grow H5.out) (by have := HTB.out; omega) (by omega)
      rw [E4.out] at hp4
      refine hp4.mono ?_
      clear hp4
      rintro e w6 ⟨A6, c6, rfl, ho6, hb6⟩
      have H6 := Lib.hid (Grows.trans H5.out hb6)
      clear ho6 hb6
      simp only [List.length_nil]
      go_wp2_with (fail)
      have hp5 := parts_of SA j sc xs T1 1 w6 (HX2.out.grow H6.out) (by have := HTB.out; omega) (by omega)
      rw [E5.out] at hp5
      refine hp5.mono ?_
      clear hp5
      rintro e w7 ⟨A7, c7, rfl, ho7, hb7⟩
      have H7 := Lib.hid (Grows.trans H6.out hb7)
      clear ho7 hb7
      simp only [List.length_nil]
      go_wp2_with (fail)
      go_ret
      exact ⟨rfl, Below.trans HG.out (Below.mono H7.out HG.out.size)⟩

set_option maxRecDepth 100000 in
theorem spanEnds_lifted (os : Os) (started : os.Started) (H : Type) (enc : TypeId × Value → H) :
    ReturnsInHanded {} Try.checked os 7 .any (Rows.spanEndsSpec.pre6 enc Try.prog Try.f7 Rows.spanEndsRow.domain false) (Rows.spanEndsSpec.post enc Try.prog Try.f7 false true false false) := by
  refine lift_law (C := Try.checked) H enc own started (by kernel_rfl) Try.func7
    (ChangeSpec.witness6 (enc := enc) (C := Try.checked) false ⟨#[], #[.slice none 0 0, .int .u16 0], []⟩ 16 (by kernel_rfl) (by kernel_rfl) (by kernel_rfl) (by kernel_rfl))
    laidOut (of_readable (by kernel_rfl)) rfl Try.underlying4 rfl (fun ds hd => ?_) (fun W base args ds p hval hA hsz => ?_)
  · match ds, hd with
    | [d1, d2], _ => rfl
  · rw [Try.params7] at hA hval hsz
    obtain ⟨v0, vs0, d0, ds0, p0, q0, hargs, rfl, rfl, h0, r0⟩ := trodAll_cons hA
    obtain ⟨v1, vs1, d1, ds1, p1, q1, rfl, rfl, rfl, h1, r1⟩ := trodAll_cons r0
    obtain ⟨rfl, rfl, rfl⟩ := trodAll_nil r1
    obtain rfl : args = #[v0, v1] := by cases args; simp_all
    obtain ⟨A0, n0, c0, xs0, rfl, hx0⟩ := open_bytes Try.underlying38 Try.underlying5 (by kernel_rfl) (by kernel_rfl) (hval 0 38 v0 rfl rfl) h0 hsz (j := 0) rfl rfl
    obtain ⟨a1, rfl, _, _, w1⟩ := open_int Try.underlying42 (hval 1 42 v1 rfl rfl) h1
    have b1 := bounds_u16 w1
    exact spanEnds_law W A0 n0 c0 xs0 hx0 a1 (by omega)

theorem spanEnds_over : Rows.spanEndsRow.holds Try.pinned (OpenSpec.ofChange Rows.spanEndsSpec) :=
  OpenClaim.holds_of_wide 7 Try.f7 rfl rfl rfl rfl rfl rfl rfl ⟨rfl, rfl, rfl, rfl, rfl⟩ rfl rfl rfl rfl rfl (by kernel_rfl) Try.func7 (by kernel_rfl)
    (of_decide_eq_true (by kernel_rfl)) (by unfold Func.isWrapper; first | (rw [if_pos (by decide +kernel)]; kernel_rfl) | (rw [if_neg (by decide +kernel)]; exact ⟨rfl, rfl⟩))
    (fun os started H enc _ => spanEnds_lifted os started H enc)
theorem spanEnds_holds : Rows.SpanEndsSaid := spanEnds_over
end Go.Proofs.Ytfopiifchcaciaa
