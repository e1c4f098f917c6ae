/-
  Statement NameSorted: segments of names in any order are the same, and of names that are told twice too. Every list of numbers and every turn, no condition.
-/
import Derived.Test.YtihmmndhpjnjnaaNmFacts
import Derived.ProofKit
import Derived.ChangeOld
namespace Go.Proofs.Ytihmmndhpjnjnaa
open Go.ChangeShapes Go.WideShapes Go.ChangeAt Go.RowKit
set_option linter.unusedSimpArgs false
set_option linter.unusedVariables false

theorem turn_all (n T p : Nat) (hn : 0 < n) (hp : p < n) (hT : n - 1 ≤ T) : ∃ i, i < n ∧ (T - i) % n = p := by
  refine ⟨(T - p) % n, Nat.mod_lt _ hn, ?_⟩
  have h1 : (T - p) % n ≤ T - p := Nat.mod_le _ _
  have h2 := Nat.div_add_mod (T - p) n
  have e : T - (T - p) % n = n * ((T - p) / n) + p := by omega
  rw [e, Nat.mul_add_mod, Nat.mod_eq_of_lt hp]

theorem seg_inj (x : Nat) (h : x < 65536) (k : Int) : parseP (nm x) = some (1, k) ↔ k = (x : Int) := by
  rw [← seg_is, nm_seg x h]
  constructor
  · intro e
    exact (Option.some.inj e).symm
  · rintro rfl
    rfl
theorem sorted_same (xs : List Nat) (bs : List (List UInt8)) (n T : Nat) (hl : xs.length = n) (hx : ∀ x ∈ xs, x < 65536) (h1 : ∀ s ∈ bs, ∃ i, i < n ∧ ∃ x, xs[(n - 1 + T - i) % n]? = some x ∧ s = nm x)
    (h2 : ∀ i, i < n → ∃ x, xs[(n - 1 + T - i) % n]? = some x ∧ nm x ∈ bs) : setP (numsP (xs.map nm)) = setP (numsP bs) := by
  refine set_like _ _ fun k => ?_
  rw [mem_nums, mem_nums]
  constructor
  · rintro ⟨s, hs, hp⟩
    obtain ⟨x, hxm, rfl⟩ := List.mem_map.1 hs
    obtain ⟨p, hp1, hp2⟩ := List.getElem_of_mem hxm
    obtain ⟨i, hi, he⟩ := turn_all n (n - 1 + T) p (by omega) (by omega) (by omega)
    obtain ⟨y, hy, hb⟩ := h2 i hi
    rw [he, List.getElem?_eq_getElem hp1, hp2, Option.some.injEq] at hy
    exact ⟨_, hy ▸ hb, hp⟩
  · rintro ⟨s, hs, hp⟩
    obtain ⟨i, hi, x, hxg, rfl⟩ := h1 s hs
    exact ⟨_, List.mem_map.2 ⟨x, List.mem_of_getElem? hxg, rfl⟩, hp⟩

set_option maxRecDepth 100000 in
set_option maxHeartbeats 8000000 in
theorem nameSorted_law (w : World) (A : Option Addr) (n c : Nat) (xs : List Nat) (hx : Nums w A n c xs) (t : Int) (ht : 0 ≤ t ∧ t < 256) :
    Calls Try.prog 8 #[.slice A n c, .int .u8 t] w fun e w' => e = .returned (.bool true) ∧ Below w.heap.size w w' := by
  obtain ⟨T, rfl⟩ := Int.eq_ofNat_of_zero_le ht.1
  have hT : T < 256 := by omega
  have HX := Lib.hid hx
  clear hx ht
  go_enter Try.func8, Try.ntmps8
  go_wp2_with (fail)
  refine (head_any w).mono ?_
  rintro e w0 ⟨rfl, hb0⟩
  have HG0 := Lib.hid hb0
  clear hb0
  by_cases hbig : (200 : Int) < (n : Int)
  · go_wp2_with (fail)
    go_ret
    exact ⟨rfl, HG0.out⟩
  go_wp2_with (fail)
  go_loopw [6, 7, 8, 9] (fun va vb i _k wr => ∃ (LA : Option Addr) (lc : Nat) (LB : Option Addr) (mc j m : Nat) (bs : List (List UInt8)), j ≤ n ∧ m = 2 * j ∧ i = .int .i64 (j : Int) ∧ va = .slice LA j lc ∧ vb = .slice LB m mc ∧
    Hid (wr.ownsRow w0.heap.size 9 1 (.slice LA j lc) j (((xs.take j).map nm).map strV)) ∧ Hid (wr.ownsRow w0.heap.size 9 1 (.slice LB m mc) m (bs.map strV)) ∧ Hid (Apart (.slice LA j lc) (.slice LB m mc)) ∧
    Hid (∀ s ∈ bs, ∃ i, i < j ∧ ∃ x, xs[(n - 1 + T - i) % n]? = some x ∧ s = nm x) ∧ Hid (∀ i, i < j → ∃ x, xs[(n - 1 + T - i) % n]? = some x ∧ nm x ∈ bs) ∧ Hid (Grows w0 wr)) (fun _ _ i _ _ => n - (intOf i).toNat)
  case atStart => exact ⟨none, 0, none, 0, 0, 0, [], by omega, rfl, rfl, rfl, rfl, Lib.hid (World.ownsRow_nil _ _ _ _), Lib.hid (World.ownsRow_nil _ _ _ _), Lib.hid (Apart.nil _), Lib.hid (fun s hs => by cases hs), Lib.hid (fun i hi => by omega), Lib.hid (Grows.refl _)⟩
  case round =>
    obtain ⟨LA, lc, LB, mc, j, m, bs, hj, rfl, rfl, rfl, rfl, HA, HB, HAP, HS1, HS2, HG⟩ := hrel
    by_cases hlt : j < n
    · have hlt' : (j : Int) < (n : Int) := by omega
      have hin := HX.out.grow (Grows.trans HG0.out HG.out)
      obtain ⟨ad, x, rfl, hcell, hget, hxs, hblk⟩ := hin.get hlt
      have e1 := fits1 x hxs
      have e2 := fits2 x hxs
      have HGET := Lib.hid hget
      have HXS := Lib.hid hxs
      clear hget hblk hin
      go_wp2_with (fail)
      refine (of_any 1 (x : Int) wr).mono ?_
      rintro e w1 ⟨rfl, hb1⟩
      have HG1 := Lib.hid hb1
      rw [← nm]
      clear hb1
      have hm1 := Whole.made w1 9 #[.string ⟨(nm x).toArray⟩]
      have HR := Lib.hid (Whole.row hm1 ([nm x].map strV) 1 rfl rfl)
      have hgg := Grows.trans HG1.out (grows_alloc w1 (.cells #[.string ⟨(nm x).toArray⟩] 9))
      have HA2 := Lib.hid (owned_grow HA.out hgg)
      have HB2 := Lib.hid (owned_grow HB.out hgg)
      have HGG := Lib.hid (Grows.trans HG.out hgg)
      clear hm1 hgg
      go_wp2_with (at_builtin
                   refine list_app_strs rfl (.tmp 21) (.tmp 28) rfl (base := w0.heap.size) rfl HA2.out (A := some ⟨w1.heap.size, 0, none⟩) (m := 1) (c := 1) rfl HR.out (fun h => by cases h) (j + 1) rfl (by omega) (by have := HGG.out.size; exact this) ?_
                   intro A3 c3 w3 ho3 hg3 hb3 hv3
                   have HO3 := Lib.hid ho3
                   have HGR3 := Lib.hid hg3
                   have HB3 := Lib.hid hb3
                   have HV3 := Lib.hid hv3
                   clear ho3 hg3 hb3 hv3)
      have hKn : (n - 1 + T - j) % n < n := Nat.mod_lt _ (by omega)
      obtain ⟨K, hK⟩ : ∃ K, (n - 1 + T - j) % n = K := ⟨_, rfl⟩
      rw [hK] at hKn
      have hKi : ((n : Int) - 1 - (j : Int) + (T : Int)) % (n : Int) = (K : Int) := by
        rw [← hK, Int.natCast_emod]
        congr 1
        omega
      rw [hKi]
      have HK := Lib.hid hK
      have hlK : (K : Int) < (n : Int) := by omega
      obtain ⟨ad2, y, hade, hcy, hgy, hys, hyb⟩ := HX.out.get hKn
      obtain rfl : ad = ad2 := Option.some.inj hade
      have HW3 := Lib.hid (show Grows w0 w3 from Below.trans HGG.out HB3.out)
      have HCY := Lib.hid (show ∀ w', Grows w3 w' → w'.cell? (ad.add K) = some (.int .u16 (y : Int)) from fun w' h => by
        rw [(Grows.trans HG0.out (Grows.trans HW3.out h)).cell (by rw [add_block]; exact hyb)]
        exact hcy)
      have f1 := fits1 y hys
      have f2 := fits2 y hys
      have HGY := Lib.hid (And.intro hgy hys)
      clear hade hcy hgy hyb hKi hK
      refine wp_region_facts_tail (E := Grows) 14 [valFact (.slice LB (2 * j) mc), valFact (.slice (some ad) n c), valFact (.int .i64 (K : Int)), valFact (.pointer (some (ad.add K))), valFact (.int .u16 (y : Int)), valFact (.int .i64 (y : Int)), valFact (.string ⟨(nm y).toArray⟩), valFact (.slice (some ad) n c), valFact (.int .i64 (K : Int)), valFact (.pointer (some (ad.add K))), valFact (.int .u16 (y : Int)), valFact (.int .i64 (y : Int)), valFact (.string ⟨(nm y).toArray⟩), blkFact (9) (#[.string ⟨(nm y).toArray⟩, .string ⟨(nm y).toArray⟩]) 2] mixed (by kernel_rfl) (fun _ _ _ => Grows.trans) (grows_drew _) ?_
      simp only [List.take_succ_cons, List.take_zero, List.drop_succ_cons, List.drop_zero]
      refine f_val (.slice LB (2 * j) mc) (by rfl) ?_ ?_
      · intro w' hC; clear hC; go_simp
      simp only [Act.put, List.setIfInBounds_toArray, List.set_cons_zero, List.set_cons_succ]
      refine f_val (.slice (some ad) n c) (by rfl) ?_ ?_
      · intro w' hC; clear hC; go_simp
      simp only [Act.put, List.setIfInBounds_toArray, List.set_cons_zero, List.set_cons_succ]
      refine f_val (.int .i64 (K : Int)) (by rfl) ?_ ?_
      · intro w' hC; clear hC; go_simp
      simp only [Act.put, List.setIfInBounds_toArray, List.set_cons_zero, List.set_cons_succ]
      refine f_val (.pointer (some (ad.add K))) (by rfl) ?_ ?_
      · intro w' hC; clear hC; go_simp
      simp only [Act.put, List.setIfInBounds_toArray, List.set_cons_zero, List.set_cons_succ]
      refine f_val (.int .u16 (y : Int)) (by rfl) ?_ ?_
      · intro w' hC; have cy := HCY.out w' hC; clear hC; go_simp
      simp only [Act.put, List.setIfInBounds_toArray, List.set_cons_zero, List.set_cons_succ]
      refine f_val (.int .i64 (y : Int)) (by rfl) ?_ ?_
      · intro w' hC; clear hC; go_simp
      simp only [Act.put, List.setIfInBounds_toArray, List.set_cons_zero, List.set_cons_succ]
      refine f_call 23 #[.int .i64 1, .int .i64 (y : Int)] (.string ⟨(nm y).toArray⟩) (by rfl) (by intro w' hC; clear hC; go_simp) ?_ ?_
      · intro w' hC hk; exact of_any 1 (y : Int) w'
      simp only [Act.put, List.setIfInBounds_toArray, List.set_cons_zero, List.set_cons_succ]
      refine f_val (.slice (some ad) n c) (by rfl) ?_ ?_
      · intro w' hC; clear hC; go_simp
      simp only [Act.put, List.setIfInBounds_toArray, List.set_cons_zero, List.set_cons_succ]
      refine f_val (.int .i64 (K : Int)) (by rfl) ?_ ?_
      · intro w' hC; clear hC; go_simp
      simp only [Act.put, List.setIfInBounds_toArray, List.set_cons_zero, List.set_cons_succ]
      refine f_val (.pointer (some (ad.add K))) (by rfl) ?_ ?_
      · intro w' hC; clear hC; go_simp
      simp only [Act.put, List.setIfInBounds_toArray, List.set_cons_zero, List.set_cons_succ]
      refine f_val (.int .u16 (y : Int)) (by rfl) ?_ ?_
      · intro w' hC; have cy := HCY.out w' hC; clear hC; go_simp
      simp only [Act.put, List.setIfInBounds_toArray, List.set_cons_zero, List.set_cons_succ]
      refine f_val (.int .i64 (y : Int)) (by rfl) ?_ ?_
      · intro w' hC; clear hC; go_simp
      simp only [Act.put, List.setIfInBounds_toArray, List.set_cons_zero, List.set_cons_succ]
      refine f_call 23 #[.int .i64 1, .int .i64 (y : Int)] (.string ⟨(nm y).toArray⟩) (by rfl) (by intro w' hC; clear hC; go_simp) ?_ ?_
      · intro w' hC hk; exact of_any 1 (y : Int) w'
      simp only [Act.put, List.setIfInBounds_toArray, List.set_cons_zero, List.set_cons_succ]
      refine f_made (9) (#[.string ⟨(nm y).toArray⟩, .string ⟨(nm y).toArray⟩]) 2 (by rfl) ?_ ?_
      · intro w' hC; clear hC; go_simp
      intro g
      simp only [Act.put, List.setIfInBounds_toArray, List.set_cons_zero, List.set_cons_succ]
      refine wpF_end ?_
      intro w4 hC hks
      have HCw4 := Lib.hid hC
      have HBLK := Lib.hid (Known.at hks 0 rfl)
      clear hC hks
      have HA4 := Lib.hid (owned_grow HO3.out HCw4.out)
      have HB4 := Lib.hid (owned_grow (HB2.out.kept HGR3.out HAP.out.symm) HCw4.out)
      have HAP3 := Lib.hid (Apart.moved HAP.out.symm HB2.out HV3.out).symm
      have hr4 := Whole.row HBLK.out ([nm y, nm y].map strV) 2 rfl rfl
      have HR4 := Lib.hid hr4
      have HW4 := Lib.hid (show Grows w0 w4 from Below.trans HW3.out (Below.mono HCw4.out HW3.out.size))
      clear hr4
      refine list_app_strs rfl (.tmp 41) (.tmp 54) rfl (base := w0.heap.size) rfl HB4.out (A := some ⟨g, 0, none⟩) (m := 2) (c := 2) rfl HR4.out (fun h => by cases h) (2 * j + 2) rfl (by omega) HW4.out.size ?_
      intro B5 c5 w5 ho5 hg5 hb5 hv5
      have HO5 := Lib.hid ho5
      have HGR5 := Lib.hid hg5
      have HB5 := Lib.hid hb5
      have HV5 := Lib.hid hv5
      clear ho5 hg5 hb5 hv5
      simp only [Act.put, List.setIfInBounds_toArray, List.set_cons_zero, List.set_cons_succ]
      go_wp2_with (fail)
      refine ⟨⟨A3, c3, B5, c5, j + 1, 2 * j + 2, bs ++ [nm y, nm y], by omega, by omega, rfl, rfl, rfl, Lib.hid ?_, HO5, Lib.hid (Apart.moved HAP3.out HA4.out HV5.out), Lib.hid ?_, Lib.hid ?_, Lib.hid (Below.trans HW4.out HB5.out)⟩, by simp [intOf]; omega⟩
      · have e : (xs.take (j + 1)).map nm = (xs.take j).map nm ++ [nm x] := by
          rw [List.take_add_one, HGET.out, List.map_append]
          rfl
        rw [e]
        exact HA4.out.kept HGR5.out HAP3.out
      · intro s hs
        rcases List.mem_append.1 hs with hs | hs
        · obtain ⟨i, hi, z, hz1, hz2⟩ := HS1.out s hs
          exact ⟨i, by omega, z, hz1, hz2⟩
        · refine ⟨j, by omega, y, by rw [HK.out]; exact HGY.out.1, ?_⟩
          simpa using hs
      · intro i hi
        by_cases hij : i < j
        · obtain ⟨z, hz1, hz2⟩ := HS2.out i hij
          exact ⟨z, hz1, List.mem_append.2 (.inl hz2)⟩
        · obtain rfl : i = j := by omega
          exact ⟨y, by rw [HK.out]; exact HGY.out.1, List.mem_append.2 (.inr (by simp))⟩
    · obtain rfl : j = n := by omega
      have hA := HA.out
      rw [List.take_of_length_le (by rw [HX.out.len]; exact Nat.le_refl _)] at hA
      have HA' := Lib.hid hA
      clear hA
      have HSA := Lib.hid (strs_owned HA'.out (fun s hs => by
        obtain ⟨x, _, rfl⟩ := List.mem_map.1 hs
        exact nm_length x))
      have HSB := Lib.hid (strs_owned HB.out (fun s hs => by
        obtain ⟨i, _, x, _, rfl⟩ := HS1.out s hs
        exact nm_length x))
      have HEQ := Lib.hid (sorted_same xs bs j T HX.out.len HX.out.small HS1.out HS2.out)
      have hnl : (setP (numsP bs)).length ≤ 1000000000000 := by
        have h1 := set_length (numsP bs)
        have h2 := nums_length bs
        have h3 := HSB.out.len
        omega
      go_wp2_with (fail)
      refine (segs_any LA j lc _ wr HSA.out (by omega)).mono ?_
      rintro e w1 ⟨A1, d1, rfl, ho1, hb1⟩
      rw [HEQ.out] at ho1 ⊢
      have HO1 := Lib.hid ho1
      have HG1 := Lib.hid (show Grows wr w1 from hb1)
      have HSB1 := Lib.hid (HSB.out.grow hb1)
      clear ho1 hb1
      go_wp2_with (fail)
      refine (segs_any LB _ mc _ w1 HSB1.out (by omega)).mono ?_
      rintro e w2 ⟨A2, d2, rfl, ho2, hb2⟩
      have HR1 := Lib.hid (Row.owned (owned_grow HO1.out hb2))
      have HR2 := Lib.hid (Row.owned ho2)
      have HG2 := Lib.hid (Grows.trans HG1.out hb2)
      obtain ⟨N, hN⟩ : ∃ N, (setP (numsP bs)).length = N := ⟨_, rfl⟩
      rw [hN] at HR1 HR2 hnl ⊢
      clear ho2 hb2 hN
      go_wp2_with (fail)
      refine (same_ints A1 N d1 A2 N d2 (setP (numsP bs)) (setP (numsP bs)) w2 HR1.out HR2.out hnl).mono ?_
      rintro e w3 ⟨he3, hb3⟩
      rw [decide_eq_true rfl] at he3
      subst he3
      have HG3 := Lib.hid (Grows.trans HG0.out (Grows.trans HG.out (Grows.trans HG2.out hb3)))
      clear hb3
      go_wp2_with (fail)
      go_ret
      exact ⟨rfl, HG3.out⟩

set_option maxRecDepth 100000 in
theorem nameSorted_lifted (os : Os) (started : os.Started) (H : Type) (enc : TypeId × Value → H) :
    ReturnsInHanded {} Try.checked os 8 .any (Rows.nameSortedSpec.pre6 enc Try.prog Try.f8 Rows.nameSortedRow.domain false) (Rows.nameSortedSpec.post enc Try.prog Try.f8 false true false false) := by
  refine lift_law (C := Try.checked) H enc own started (by kernel_rfl) Try.func8
    (ChangeSpec.witness6 (enc := enc) (C := Try.checked) false ⟨#[], #[.slice none 0 0, .int .u8 0], []⟩ 16 (by kernel_rfl) (by kernel_rfl) (by kernel_rfl) (by kernel_rfl))
    laidOut (of_readable (by kernel_rfl)) rfl Try.underlying4 rfl (fun ds hd => ?_) (fun W base args ds p hval hA hsz => ?_)
  · match ds, hd with
    | [d1, d2], _ => rfl
  · rw [Try.params8] at hA hval hsz
    obtain ⟨v0, vs0, d0, ds0, p0, q0, hargs, rfl, rfl, h0, r0⟩ := trodAll_cons hA
    obtain ⟨v1, vs1, d1, ds1, p1, q1, rfl, rfl, rfl, h1, r1⟩ := trodAll_cons r0
    obtain ⟨rfl, rfl, rfl⟩ := trodAll_nil r1
    obtain rfl : args = #[v0, v1] := by cases args; simp_all
    obtain ⟨A0, n0, c0, xs0, rfl, hx0⟩ := open_nums Try.underlying45 Try.underlying47 (by kernel_rfl) (hval 0 45 v0 rfl rfl) h0
    obtain ⟨a1, rfl, _, _, w1⟩ := open_int Try.underlying5 (hval 1 5 v1 rfl rfl) h1
    have b1 := bounds_u8 w1
    exact nameSorted_law W A0 n0 c0 xs0 hx0 a1 (by omega)

theorem nameSorted_over : Rows.nameSortedRow.holds Try.pinned (OpenSpec.ofChange Rows.nameSortedSpec) :=
  OpenClaim.holds_of_wide 8 Try.f8 rfl rfl rfl rfl rfl rfl rfl ⟨rfl, rfl, rfl, rfl, rfl⟩ rfl rfl rfl rfl rfl (by kernel_rfl) Try.func8 (by kernel_rfl)
    (of_decide_eq_true (by kernel_rfl)) (by unfold Func.isWrapper; first | (rw [if_pos (by decide +kernel)]; kernel_rfl) | (rw [if_neg (by decide +kernel)]; exact ⟨rfl, rfl⟩))
    (fun os started H enc _ => nameSorted_lifted os started H enc)
theorem nameSorted_holds : Rows.NameSortedSaid := nameSorted_over
end Go.Proofs.Ytihmmndhpjnjnaa
