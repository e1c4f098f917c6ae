/-
  HintParted: the hints of more that was found behind are those of both, of which the later ones take the earlier ones' places.
-/
import Derived.Test.YtdjlhdeejpndcaaRows
import Derived.Test.YtdjlhdeejpndcaaChecked
import Derived.Test.YtdjlhdeejpndcaaFrame
import Derived.Test.YtdjlhdeejpndcaaSeat
import Derived.Test.YtdjlhdeejpndcaaHtIn
import Derived.Test.YtdjlhdeejpndcaaHtHead
import Derived.Test.YtdjlhdeejpndcaaHtHead11
import Derived.Test.YtdjlhdeejpndcaaRowsIn
import Derived.ProofKit
import Derived.ChangeOld
namespace Go.Proofs.Ytdjlhdeejpndcaa
open Go.ChangeShapes Go.WideShapes Go.ChangeAt Go.RowKit
set_option linter.unusedSimpArgs false
set_option linter.unusedVariables false
attribute [local irreducible] Go.wpQuiet
theorem infoFd : (Try.prog.info? 43).map (fun i => (i.zero, i.size, i.bytes)) = some (some (.agg #[.int .i64 0, .int .i64 0, .int .i64 0, .string ⟨#[]⟩, .int .i64 0, .int .i64 0, .int .i64 0, .slice none 0 0, .slice none 0 0]), 9, 112) := by kernel_rfl
theorem last_key {l : List Fd} {k : List UInt8} {x : Ht} (h : lastP l k = some x) : x.key = k := by
  rw [← ofP_find] at h
  exact ((hfind_some (ofP_rise l)).1 h).2
theorem last_append (a b : List Fd) (k : List UInt8) : lastP (a ++ b) k = match lastP b k with
    | some x => some x
    | none => lastP a k := by
  refine list_snoc (p := fun b => lastP (a ++ b) k = match lastP b k with
    | some x => some x
    | none => lastP a k) (by rw [List.append_nil]; rfl) (fun b f ih => ?_) b
  rw [← List.append_assoc, lastP_snoc, lastP_snoc]
  by_cases h : (toldF f && f.key == k) = true
  · rw [if_pos h, if_pos h]
  · rw [if_neg h, if_neg h, ih]
theorem sub_length : ∀ {xs ys : List Ht}, xs.Nodup → (∀ x ∈ xs, x ∈ ys) → xs.length ≤ ys.length
  | [], _, _, _ => Nat.zero_le _
  | x :: xs, ys, hn, hs => by
    obtain ⟨hx, hn⟩ := List.nodup_cons.1 hn
    have hm := hs x List.mem_cons_self
    have h1 := sub_length (xs := xs) (ys := ys.erase x) hn fun y hy => (List.mem_erase_of_ne (fun e => hx (by rw [← e]; exact hy))).2 (hs y (List.mem_cons_of_mem _ hy))
    rw [List.length_erase_of_mem hm] at h1
    have : 0 < ys.length := List.length_pos_of_mem hm
    rw [List.length_cons]
    omega
theorem rise_nodup {l : List Ht} (h : Rising l) : l.Nodup := h.imp fun hb e => by
  rw [e, bef_irrefl] at hb
  cases hb
theorem rise_at {l : List Ht} (h : Rising l) {i j : Nat} {x y : Ht} (hx : l[i]? = some x) (hy : l[j]? = some y) (hij : i < j) : bytesBefore x.key y.key = true := by
  obtain ⟨h1, h2⟩ := List.getElem?_eq_some_iff.1 hx
  obtain ⟨h3, h4⟩ := List.getElem?_eq_some_iff.1 hy
  have := List.pairwise_iff_getElem.1 h i j h1 h3 hij
  rw [h2, h4] at this
  exact this
theorem rise_next {l : List Ht} (h : Rising l) {j : Nat} {x y : Ht} (hx : l[j]? = some x) (hy : l[j + 1]? = some y) : bytesBefore x.key y.key = true := rise_at h hx hy (Nat.lt_succ_self j)
theorem parted (a b : List Fd) : (∀ y ∈ ofP b, y ∈ ofP (a ++ b)) ∧ (∀ x ∈ ofP a, (∀ y ∈ ofP b, y.key ≠ x.key) → x ∈ ofP (a ++ b)) ∧ (ofP (a ++ b)).length ≤ (ofP a).length + (ofP b).length ∧ (ofP b).length ≤ (ofP (a ++ b)).length := by
  have h1 : ∀ y ∈ ofP b, y ∈ ofP (a ++ b) := fun y hy => by
    rw [mem_ofP] at hy ⊢
    rw [last_append, hy]
  refine ⟨h1, fun x hx hno => ?_, ?_, sub_length (rise_nodup (ofP_rise b)) h1⟩
  · rw [mem_ofP] at hx ⊢
    rw [last_append]
    cases hb : lastP b x.key with
    | none => exact hx
    | some y =>
      have hk := last_key hb
      exact absurd hk (hno y (mem_ofP.2 (hk ▸ hb)))
  · rw [← List.length_append]
    refine sub_length (rise_nodup (ofP_rise _)) fun z hz => ?_
    rw [mem_ofP, last_append] at hz
    cases hb : lastP b z.key with
    | none =>
      rw [hb] at hz
      exact List.mem_append_left _ (mem_ofP.2 hz)
    | some y =>
      rw [hb] at hz
      injection hz with hz
      subst hz
      exact List.mem_append_right _ (mem_ofP.2 hb)

set_option maxHeartbeats 16000000 in
set_option maxRecDepth 100000 in
theorem hintParted_law (w : World) (A0 : Option Addr) (n0 c0 : Nat) (la : List Fd) (hx : Fds w A0 n0 c0 la) (hn : n0 ≤ 4000000000000) (A1 : Option Addr) (n1 c1 : Nat) (lb : List Fd) (hy : Fds w A1 n1 c1 lb) (hm : n1 ≤ 4000000000000) :
    Calls Try.prog 4 #[.slice A0 n0 c0, .slice A1 n1 c1] w fun e w' => e = .returned (.bool true) ∧ Below w.heap.size w w' := by
  have HX := Lib.hid hx
  have HY := Lib.hid hy
  have HGA := Lib.hid (fun w' (hg : Grows w w') => great_any A0 n0 c0 la w' (hx.grow hg) (by omega))
  have HGB := Lib.hid (fun w' (hg : Grows w w') => great_any A1 n1 c1 lb w' (hy.grow hg) (by omega))
  have HPP := Lib.hid (parted la lb)
  obtain ⟨i0, hi0, hz0, hz1, hz2⟩ := info_of infoFd
  have HI := Lib.hid (And.intro hi0 (And.intro hz0 (And.intro hz1 hz2)))
  clear hx hy hi0 hz0 hz1 hz2
  go_enter Try.func4, Try.ntmps4
  go_wp2_with (fail)
  refine (head11_any w).mono ?_
  rintro e w1 ⟨rfl, hg1⟩
  have HG1 := Lib.hid hg1
  clear hg1
  go_wp2_with (fail)
  refine (HGA.out w1 HG1.out).mono ?_
  rintro e w2 ⟨r, rfl, hr, hg2⟩
  have HG2 := Lib.hid (And.intro (HG1.out.trans hg2) hr)
  clear hg2 hr
  cases r
  rotate_left 1
  · go_wp2_with (fail)
    go_ret
    exact ⟨rfl, HG2.out.1⟩
  have hn3 := HG2.out.2 rfl
  go_wp2_with (fail)
  refine (HGB.out w2 HG2.out.1).mono ?_
  rintro e w3 ⟨r, rfl, hr, hg3⟩
  have HG3 := Lib.hid (And.intro (HG2.out.1.trans hg3) hr)
  clear hg3 hr
  cases r
  rotate_left 1
  · go_wp2_with (fail)
    go_ret
    exact ⟨rfl, HG3.out.1⟩
  have hm3 := HG3.out.2 rfl
  have hg4 := grows_alloc w3 (.cells #[] 43)
  have ho4 : (w3.alloc (.cells #[] 43)).ownsRow w3.heap.size 43 9 (.slice (some ⟨w3.heap.size, 0, none⟩) 0 0) 0 [] := ⟨rfl, .inr ⟨w3.heap.size, 0, #[], rfl, Nat.le_refl _, Whole.made _ _ _, Nat.le_refl _, by unfold maxLen; omega, rfl, rfl⟩⟩
  obtain ⟨w4, hw4⟩ : ∃ y, w3.alloc (.cells #[] 43) = y := ⟨_, rfl⟩
  rw [hw4] at hg4 ho4
  have H4 := Lib.hid (And.intro ho4 hg4)
  have HXR := Lib.hid (HX.out.grow (HG3.out.1.trans hg4))
  clear hg4 ho4
  go_wp2_with (first
    | rw [hw4]
    | (at_builtin
       refine list_append_at rfl (.tmp 24) (.tmp 25) 31 rfl w3.heap.size 43 i0 (.agg #[.int .i64 0, .int .i64 0, .int .i64 0, .string ⟨#[]⟩, .int .i64 0, .int .i64 0, .int .i64 0, .slice none 0 0, .slice none 0 0]) 9 112 Try.underlying31 HI.out.1 HI.out.2.1 HI.out.2.2.1 HI.out.2.2.2 rfl (by omega)
         rfl H4.out.1 (A := A0) (m := n0) (c := c0) rfl HXR.out.row HXR.out.bare (by intro u hu; obtain ⟨f, _, hf⟩ := List.mem_flatMap.1 hu; exact fdE_one f u hf) n0 (Nat.zero_add _) (by unfold maxLen; omega) (by omega) H4.out.2.size ?_
       intro A5 c5 w5 ho5 hg5 hd5
       have hb5 := below_append H4.out.2 hg5 H4.out.2.size (fun g hg => (owned_lt3 H4.out.1 hg).1)
       have H5 := Lib.hid (And.intro ho5 (show Grows w3 w5 from hb5))
       have HYR := Lib.hid (HY.out.grow (HG3.out.1.trans hb5))
       obtain ⟨nn, hnn⟩ : ∃ q, n0 + n1 = q := ⟨_, rfl⟩
       have HNN := Lib.hid hnn
       clear ho5 hg5 hd5 hb5 hnn)
    | (at_builtin
       refine list_append_at rfl (.tmp 26) (.tmp 27) 31 rfl w3.heap.size 43 i0 (.agg #[.int .i64 0, .int .i64 0, .int .i64 0, .string ⟨#[]⟩, .int .i64 0, .int .i64 0, .int .i64 0, .slice none 0 0, .slice none 0 0]) 9 112 Try.underlying31 HI.out.1 HI.out.2.1 HI.out.2.2.1 HI.out.2.2.2 rfl (by omega)
         rfl H5.out.1 (A := A1) (m := n1) (c := c1) rfl HYR.out.row HYR.out.bare (by intro u hu; obtain ⟨f, _, hf⟩ := List.mem_flatMap.1 hu; exact fdE_one f u hf) nn HNN.out (by unfold maxLen; have := HNN.out; omega) (by have := HNN.out; omega) H5.out.2.size ?_
       intro A6 c6 w6 ho6 hg6 hd6
       have hb6 := below_append H5.out.2 hg6 H5.out.2.size (fun g hg => (owned_lt3 H5.out.1 hg).1)
       have H6 := Lib.hid (And.intro (show Fds w6 A6 nn c6 (la ++ lb) from Rs.owned fdL (by rw [List.length_append, HX.out.len, HY.out.len]; exact HNN.out) (owned_from (by simpa using ho6) (Nat.zero_le _))) (HG3.out.1.trans (show Grows w3 w6 from hb6)))
       clear ho6 hg6 hd6 hb6)
    | fail)
  refine (of_hints A6 nn c6 (la ++ lb) w6 H6.out.1 (by have := HNN.out; omega)).mono ?_
  rintro e w7 ⟨ZA, zc, rfl, ho7, hg7⟩
  obtain ⟨Z, hZ⟩ : ∃ Z, ofP (la ++ lb) = Z := ⟨_, rfl⟩
  rw [hZ] at ho7 HPP ⊢
  obtain ⟨zn, hzn⟩ : ∃ q, Z.length = q := ⟨_, rfl⟩
  have hzl := ofP_length (la ++ lb)
  rw [hzn] at ho7 ⊢
  have H7 := Lib.hid (And.intro (Rs.owned htL hzn (owned_from ho7 (Nat.zero_le _))) (H6.out.2.trans hg7))
  rw [hZ, hzn, List.length_append, HX.out.len, HY.out.len] at hzl
  clear ho7 hg7 hw4
  go_wp2_with (fail)
  refine (of_hints A0 n0 c0 la w7 (HX.out.grow H7.out.2) (by omega)).mono ?_
  rintro e w8 ⟨XA, xc, rfl, ho8, hg8⟩
  obtain ⟨X, hX⟩ : ∃ X, ofP la = X := ⟨_, rfl⟩
  rw [hX] at ho8 HPP ⊢
  obtain ⟨xn, hxn⟩ : ∃ q, X.length = q := ⟨_, rfl⟩
  have hxl := ofP_length la
  rw [hX, hxn, HX.out.len] at hxl
  rw [hxn] at ho8 ⊢
  have H8 := Lib.hid (And.intro (Rs.owned htL hxn (owned_from ho8 (Nat.zero_le _))) (And.intro (H7.out.1.grow hg8) (H7.out.2.trans hg8)))
  clear ho8 hg8
  go_wp2_with (fail)
  refine (of_hints A1 n1 c1 lb w8 (HY.out.grow H8.out.2.2) (by omega)).mono ?_
  rintro e w9 ⟨YA, yc, rfl, ho9, hg9⟩
  obtain ⟨Y, hY⟩ : ∃ Y, ofP lb = Y := ⟨_, rfl⟩
  rw [hY] at ho9 HPP ⊢
  obtain ⟨yn, hyn⟩ : ∃ q, Y.length = q := ⟨_, rfl⟩
  have hyl := ofP_length lb
  rw [hY, hyn, HY.out.len] at hyl
  rw [hyn] at ho9 ⊢
  have HZ := Lib.hid (H8.out.2.1.grow hg9)
  have HXX := Lib.hid (H8.out.1.grow hg9)
  have HYY := Lib.hid (Rs.owned htL hyn (owned_from ho9 (Nat.zero_le _)))
  have HG := Lib.hid (H8.out.2.2.trans hg9)
  have hle := HPP.out.2.2.1
  have hge := HPP.out.2.2.2
  rw [hzn, hxn, hyn] at hle
  rw [hzn, hyn] at hge
  have HP2 := Lib.hid (And.intro hle (And.intro hge (And.intro hZ (And.intro hX hY))))
  have HLN := Lib.hid (And.intro hzn (And.intro hxn hyn))
  clear ho9 hg9 H8 H7 H6 H5 H4 HXR HYR HNN hZ hX hY hzn hxn hyn hle hge
  go_wp2_with (fail)
  go_loopw [9, 10] (fun t i wr => ∃ (at_ j : Nat), j ≤ xn ∧ at_ ≤ zn ∧ i = .int .i64 (j : Nat) ∧ t = .int .i64 (at_ : Nat) ∧ Hid (∀ q z x, q < at_ → Z[q]? = some z → X[j]? = some x → bytesBefore z.key x.key = true) ∧ Hid (Grows w9 wr)) (fun _ i _ => xn - (intOf i).toNat)
  case atStart => exact ⟨0, 0, by omega, by omega, rfl, rfl, Lib.hid (fun q z x hq => absurd hq (Nat.not_lt_zero q)), Lib.hid (Grows.refl _)⟩
  case round =>
    obtain ⟨at_, j, hj, hat, rfl, rfl, HAT, HGW⟩ := hrel
    by_cases hjx : j < xn
    rotate_left 1
    · have hjx' : ¬ (j : Int) < (xn : Int) := by omega
      have HG0 := HGW
      obtain ⟨S, hS⟩ : ∃ S : Int, (xn : Int) + (yn : Int) = S := ⟨_, rfl⟩
      have kw1 : IntKind.i64.wrap ((xn : Int) + (yn : Int)) = S := by rw [hS, ← hS]; exact IntWalk.i64_in _ ⟨by omega, by omega⟩
      have kw2 : wrap64 ((xn : Int) + (yn : Int)) = S := by rw [← IntWalk.i64_left]; exact kw1
      have kz : (zn : Int) ≤ S := by have := HP2.out.1; omega
      have kz2 : (yn : Int) ≤ (zn : Int) := by have := HP2.out.2.1; omega
      clear hS HAT
      go_wp2_with (fail)
      go_loopw [13] (fun k wr => ∃ (q : Nat), q ≤ yn ∧ k = .int .i64 (q : Nat) ∧ Hid (Grows w9 wr)) (fun k _ => yn - (intOf k).toNat)
      case atStart => exact ⟨0, by omega, rfl, HG0⟩
      case round =>
        obtain ⟨q, hq, rfl, HGA⟩ := hrel
        by_cases hqy : q < yn
        rotate_left 1
        · have hqy' : ¬ (q : Int) < (yn : Int) := by omega
          go_wp2_with (fail)
          go_ret
          exact ⟨rfl, HG.out.trans HGA.out⟩
        have hqy' : (q : Int) < (yn : Int) := by omega
        have kq : (0 : Int) ≤ (q : Int) := by omega
        obtain ⟨yd, y, rfl, hyq, _, hcy⟩ := Hts.at HYY.out hqy
        have hyz : y ∈ Z := HPP.out.1 y (List.mem_of_getElem? hyq)
        obtain ⟨p, hp⟩ := List.getElem?_of_mem hyz
        have hpz : p < zn := by rw [← HLN.out.1]; exact (List.getElem?_eq_some_iff.1 hp).1
        have HYC := Lib.hid (And.intro hcy hp)
        clear hyq hcy hyz hp
        go_wp2_with (fail)
        go_loopw [14, 15] (fun is i wr => ∃ (s : Nat) (b : Bool), s ≤ zn ∧ i = .int .i64 (s : Nat) ∧ is = .bool b ∧ Hid (b = true ↔ ∃ p', p' < s ∧ Z[p']? = some y) ∧ Hid (Grows w9 wr)) (fun _ i _ => zn - (intOf i).toNat)
        case atStart => exact ⟨0, false, by omega, rfl, rfl, Lib.hid ⟨(fun h => by cases h), fun ⟨p', h, _⟩ => absurd h (Nat.not_lt_zero _)⟩, HGA⟩
        case round =>
          obtain ⟨s, b, hs, rfl, rfl, HB, HGB2⟩ := hrel
          by_cases hsz : s < zn
          rotate_left 1
          · have hsz' : ¬ (s : Int) < (zn : Int) := by omega
            have hbt : b = true := HB.out.2 ⟨p, by omega, HYC.out.2⟩
            subst hbt
            go_wp2_with (fail)
            go_roundw
            case rel => exact ⟨q + 1, by omega, by go_num, HGB2⟩
            case measure => simp [intOf]; omega
          have hsz' : (s : Int) < (zn : Int) := by omega
          have ks : (0 : Int) ≤ (s : Int) := by omega
          obtain ⟨zd, z, rfl, hzs, _, hcz⟩ := Hts.at HZ.out hsz
          have HC := Lib.hid (fun w' (hC : Grows wr w') => And.intro (hcz w' (HGB2.out.trans hC)) (HYC.out.1 w' (HGB2.out.trans hC)))
          have HZS := Lib.hid hzs
          clear hcz hzs
          cases b
          · have heq := fun w => eq_ht z y w
            by_cases hzy : z = y
            · rw [decide_eq_true hzy] at heq
              have HZY := Lib.hid hzy
              unfold htV at heq
              clear hzy
              go_wp2_with (fail)
              refine q_region (by kernel_rfl) (by kernel_rfl) ?_
              iterate 13 (refine q_op' (v := ?_) (a' := ?_) (by rfl) ?_ ?_ ?_
                          rotate_left 2
                          · intro w' hC
                            obtain ⟨⟨z0, z1, z2, z3⟩, v0, v1, v2, v3⟩ := HC.out w' hC
                            clear hC
                            go_simp
                            try with_reducible rfl
                          · simp only [Act.put, List.setIfInBounds_toArray, List.set_cons_zero, List.set_cons_succ]
                            try rfl)
              refine wpQuiet_nil ?_
              intro w5 hC
              have HCw5 := Lib.hid hC
              clear hC
              clear heq
              go_wp2_with (fail)
              go_roundw
              case rel => exact ⟨s + 1, true, by omega, by go_num, rfl, Lib.hid ⟨fun _ => ⟨s, by omega, HZY.out ▸ HZS.out⟩, fun _ => rfl⟩, Lib.hid (HGB2.out.trans HCw5.out)⟩
              case measure => simp [intOf]; omega
            · rw [decide_eq_false hzy] at heq
              have HZY := Lib.hid hzy
              unfold htV at heq
              clear hzy
              go_wp2_with (fail)
              refine q_region (by kernel_rfl) (by kernel_rfl) ?_
              iterate 13 (refine q_op' (v := ?_) (a' := ?_) (by rfl) ?_ ?_ ?_
                          rotate_left 2
                          · intro w' hC
                            obtain ⟨⟨z0, z1, z2, z3⟩, v0, v1, v2, v3⟩ := HC.out w' hC
                            clear hC
                            go_simp
                            try with_reducible rfl
                          · simp only [Act.put, List.setIfInBounds_toArray, List.set_cons_zero, List.set_cons_succ]
                            try rfl)
              refine wpQuiet_nil ?_
              intro w5 hC
              have HCw5 := Lib.hid hC
              clear hC
              clear heq
              go_wp2_with (fail)
              go_roundw
              case rel => exact ⟨s + 1, false, by omega, by go_num, rfl, Lib.hid ⟨(fun h => by cases h), fun ⟨p', h1, h2⟩ => (by
                rcases Nat.lt_or_ge p' s with h | h
                · exact HB.out.2 ⟨p', h, h2⟩
                · obtain rfl : p' = s := by omega
                  rw [HZS.out] at h2
                  injection h2 with h2
                  exact absurd h2 HZY.out)⟩, Lib.hid (HGB2.out.trans HCw5.out)⟩
              case measure => simp [intOf]; omega
          · go_wp2_with (fail)
            refine q_region (by kernel_rfl) (by kernel_rfl) ?_
            iterate 2 (refine q_op' (v := ?_) (a' := ?_) (by rfl) ?_ ?_ ?_
                       rotate_left 2
                       · intro w' hC
                         obtain ⟨⟨z0, z1, z2, z3⟩, v0, v1, v2, v3⟩ := HC.out w' hC
                         clear hC
                         go_simp
                         try with_reducible rfl
                       · simp only [Act.put, List.setIfInBounds_toArray, List.set_cons_zero, List.set_cons_succ]
                         try rfl)
            iterate 9 (refine q_skip' (a' := ?_) (by rfl) ?_ ?_
                       rotate_left 1
                       · simp only [Act.put, List.setIfInBounds_toArray, List.set_cons_zero, List.set_cons_succ]
                         try rfl)
            iterate 2 (refine q_op' (v := ?_) (a' := ?_) (by rfl) ?_ ?_ ?_
                       rotate_left 2
                       · intro w' hC
                         obtain ⟨⟨z0, z1, z2, z3⟩, v0, v1, v2, v3⟩ := HC.out w' hC
                         clear hC
                         go_simp
                         try with_reducible rfl
                       · simp only [Act.put, List.setIfInBounds_toArray, List.set_cons_zero, List.set_cons_succ]
                         try rfl)
            refine wpQuiet_nil ?_
            intro w5 hC
            have HCw5 := Lib.hid hC
            clear hC
            go_wp2_with (fail)
            go_roundw
            case rel => exact ⟨s + 1, true, by omega, by go_num, rfl, Lib.hid ⟨fun _ => (by obtain ⟨p', h1, h2⟩ := HB.out.1 trivial; exact ⟨p', by omega, h2⟩), fun _ => rfl⟩, Lib.hid (HGB2.out.trans HCw5.out)⟩
            case measure => simp [intOf]; omega
    have hjx' : (j : Int) < (xn : Int) := by omega
    have kj : (0 : Int) ≤ (j : Int) := by omega
    obtain ⟨xd, x, rfl, hxj, _, hcx⟩ := Hts.at HXX.out hjx
    have HXJ := Lib.hid (And.intro hcx hxj)
    have hxr : Rising X := by rw [← HP2.out.2.2.2.1]; exact ofP_rise la
    have hzr : Rising Z := by rw [← HP2.out.2.2.1]; exact ofP_rise (la ++ lb)
    have HNX := Lib.hid (fun (at' : Nat) (hat' : ∀ q z, q < at' → Z[q]? = some z → bytesBefore z.key x.key = true) => (fun q z x' hq hz hx' => bef_trans (hat' q z hq hz) (rise_next hxr hxj hx') : ∀ q z x', q < at' → Z[q]? = some z → X[j + 1]? = some x' → bytesBefore z.key x'.key = true))
    have HAX := Lib.hid (fun q z hq hz => HAT.out q z x hq hz hxj)
    have HZR := Lib.hid hzr
    have HGX := HGW
    clear hcx hxj hxr hzr HAT
    go_wp2_with (fail)
    go_loopw [11, 12] (fun lt k wr => ∃ (q : Nat) (b : Bool), q ≤ yn ∧ k = .int .i64 (q : Nat) ∧ lt = .bool b ∧ Hid (b = true ↔ ∃ p y, p < q ∧ Y[p]? = some y ∧ y.key = x.key) ∧ Hid (Grows w9 wr)) (fun _ k _ => yn - (intOf k).toNat)
    case atStart => exact ⟨0, false, by omega, rfl, rfl, Lib.hid ⟨(fun h => by cases h), fun ⟨p, y, h, _⟩ => absurd h (Nat.not_lt_zero _)⟩, HGX⟩
    case round =>
      obtain ⟨q, b, hq, rfl, rfl, HB, HGB2⟩ := hrel
      by_cases hqy : q < yn
      · have hqy' : (q : Int) < (yn : Int) := by omega
        have kq : (0 : Int) ≤ (q : Int) := by omega
        obtain ⟨yd, y, rfl, hyq, _, hcy⟩ := Hts.at HYY.out hqy
        have HC := Lib.hid (fun w' (hC : Grows wr w') => And.intro (hcy w' (HGB2.out.trans hC)) (HXJ.out.1 w' (HGB2.out.trans hC)))
        have HYQ := Lib.hid hyq
        clear hcy hyq
        cases b
        · by_cases hk : y.key = x.key
          · have hkq : (y.key == x.key) = true := by rw [hk]; exact beq_self_eq_true _
            have HK := Lib.hid hk
            clear hk
            go_wp2_with (fail)
            refine q_region (by kernel_rfl) (by kernel_rfl) ?_
            iterate 15 (refine q_op' (v := ?_) (a' := ?_) (by rfl) ?_ ?_ ?_
                        rotate_left 2
                        · intro w' hC
                          obtain ⟨⟨z0, z1, z2, z3⟩, v0, v1, v2, v3⟩ := HC.out w' hC
                          clear hC
                          go_simp
                          try with_reducible rfl
                        · simp only [Act.put, List.setIfInBounds_toArray, List.set_cons_zero, List.set_cons_succ]
                          try rfl)
            refine wpQuiet_nil ?_
            intro w5 hC
            have HCw5 := Lib.hid hC
            clear hC
            clear hkq
            go_wp2_with (fail)
            go_roundw
            case rel => exact ⟨q + 1, true, by omega, by go_num, rfl, Lib.hid ⟨fun _ => ⟨q, y, by omega, HYQ.out, HK.out⟩, fun _ => rfl⟩, Lib.hid (HGB2.out.trans HCw5.out)⟩
            case measure => simp [intOf]; omega
          · have hkq : (y.key == x.key) = false := by simpa using hk
            have HK := Lib.hid hk
            clear hk
            go_wp2_with (fail)
            refine q_region (by kernel_rfl) (by kernel_rfl) ?_
            iterate 15 (refine q_op' (v := ?_) (a' := ?_) (by rfl) ?_ ?_ ?_
                        rotate_left 2
                        · intro w' hC
                          obtain ⟨⟨z0, z1, z2, z3⟩, v0, v1, v2, v3⟩ := HC.out w' hC
                          clear hC
                          go_simp
                          try with_reducible rfl
                        · simp only [Act.put, List.setIfInBounds_toArray, List.set_cons_zero, List.set_cons_succ]
                          try rfl)
            refine wpQuiet_nil ?_
            intro w5 hC
            have HCw5 := Lib.hid hC
            clear hC
            clear hkq
            go_wp2_with (fail)
            go_roundw
            case rel => exact ⟨q + 1, false, by omega, by go_num, rfl, Lib.hid ⟨(fun h => by cases h), fun ⟨p, y', h1, h2, h3⟩ => (by
              rcases Nat.lt_or_ge p q with h | h
              · exact HB.out.2 ⟨p, y', h, h2, h3⟩
              · obtain rfl : p = q := by omega
                rw [HYQ.out] at h2
                injection h2 with h2
                exact absurd (h2 ▸ h3) HK.out)⟩, Lib.hid (HGB2.out.trans HCw5.out)⟩
            case measure => simp [intOf]; omega
        · go_wp2_with (fail)
          refine q_region (by kernel_rfl) (by kernel_rfl) ?_
          iterate 2 (refine q_op' (v := ?_) (a' := ?_) (by rfl) ?_ ?_ ?_
                     rotate_left 2
                     · intro w' hC
                       obtain ⟨⟨z0, z1, z2, z3⟩, v0, v1, v2, v3⟩ := HC.out w' hC
                       clear hC
                       go_simp
                       try with_reducible rfl
                     · simp only [Act.put, List.setIfInBounds_toArray, List.set_cons_zero, List.set_cons_succ]
                       try rfl)
          iterate 11 (refine q_skip' (a' := ?_) (by rfl) ?_ ?_
                      rotate_left 1
                      · simp only [Act.put, List.setIfInBounds_toArray, List.set_cons_zero, List.set_cons_succ]
                        try rfl)
          iterate 2 (refine q_op' (v := ?_) (a' := ?_) (by rfl) ?_ ?_ ?_
                     rotate_left 2
                     · intro w' hC
                       obtain ⟨⟨z0, z1, z2, z3⟩, v0, v1, v2, v3⟩ := HC.out w' hC
                       clear hC
                       go_simp
                       try with_reducible rfl
                     · simp only [Act.put, List.setIfInBounds_toArray, List.set_cons_zero, List.set_cons_succ]
                       try rfl)
          refine wpQuiet_nil ?_
          intro w5 hC
          have HCw5 := Lib.hid hC
          clear hC
          go_wp2_with (fail)
          go_roundw
          case rel => exact ⟨q + 1, true, by omega, by go_num, rfl, Lib.hid ⟨fun _ => (by obtain ⟨p, y', h1, h2⟩ := HB.out.1 trivial; exact ⟨p, y', by omega, h2⟩), fun _ => rfl⟩, Lib.hid (HGB2.out.trans HCw5.out)⟩
          case measure => simp [intOf]; omega
      · have hqy' : ¬ (q : Int) < (yn : Int) := by omega
        cases b
        rotate_left 1
        · go_wp2_with (fail)
          go_roundw
          case rel => exact ⟨at_, j + 1, by omega, hat, by go_num, rfl, Lib.hid (HNX.out at_ HAX.out), Lib.hid HGB2.out⟩
          case measure => simp [intOf]; omega
        have hxz : x ∈ Z := HPP.out.2.1 x (List.mem_of_getElem? HXJ.out.2) fun y hy e => by
          obtain ⟨p, hp⟩ := List.getElem?_of_mem hy
          have h1 : p < yn := by rw [← HLN.out.2.2]; exact (List.getElem?_eq_some_iff.1 hp).1
          have := HB.out.2 ⟨p, y, by omega, hp, e⟩
          cases this
        obtain ⟨p, hp⟩ := List.getElem?_of_mem hxz
        have hpz : p < zn := by rw [← HLN.out.1]; exact (List.getElem?_eq_some_iff.1 hp).1
        have hap : at_ ≤ p := by
          rcases Nat.lt_or_ge p at_ with h | h
          · have := HAX.out p x h hp
            rw [bef_irrefl] at this
            cases this
          · exact h
        have HP := Lib.hid hp
        clear hxz hp
        go_wp2_with (fail)
        go_loopw [9] (fun t wr => ∃ (a' : Nat), a' ≤ p ∧ t = .int .i64 (a' : Nat) ∧ Hid (∀ q z, q < a' → Z[q]? = some z → bytesBefore z.key x.key = true) ∧ Hid (Grows w9 wr)) (fun t _ => p - (intOf t).toNat)
        case atStart => exact ⟨at_, hap, rfl, HAX, HGB2⟩
        case round =>
          obtain ⟨a', ha', rfl, HA, HGC⟩ := hrel
          have haz : a' < zn := by omega
          have haz' : (a' : Int) < (zn : Int) := by omega
          have ka : (0 : Int) ≤ (a' : Int) := by omega
          have kne : ((a' : Int) == (zn : Int)) = false := by rw [beq_eq_false_iff_ne]; omega
          obtain ⟨zd, z, rfl, hza, _, hcz⟩ := Hts.at HZ.out haz
          have HC := Lib.hid (fun w' (hC : Grows wr w') => And.intro (hcz w' (HGC.out.trans hC)) (HXJ.out.1 w' (HGC.out.trans hC)))
          have HZA := Lib.hid hza
          clear hcz hza
          by_cases hap2 : a' < p
          · have hbz := rise_at HZR.out HZA.out HP.out hap2
            have hless : Op.bytesLess z.key x.key = true := by rw [less_before]; exact hbz
            have HBZ := Lib.hid hbz
            clear hbz
            go_wp2_with (fail)
            refine q_region (by kernel_rfl) (by kernel_rfl) ?_
            iterate 17 (refine q_op' (v := ?_) (a' := ?_) (by rfl) ?_ ?_ ?_
                        rotate_left 2
                        · intro w' hC
                          obtain ⟨⟨z0, z1, z2, z3⟩, v0, v1, v2, v3⟩ := HC.out w' hC
                          clear hC
                          go_simp
                          try with_reducible rfl
                        · simp only [Act.put, List.setIfInBounds_toArray, List.set_cons_zero, List.set_cons_succ]
                          try rfl)
            refine wpQuiet_nil ?_
            intro w5 hC
            have HCw5 := Lib.hid hC
            clear hC
            clear hless
            go_wp2_with (fail)
            go_roundw
            case rel => exact ⟨a' + 1, by omega, by go_num, Lib.hid (fun q z' hq hz' => by
              rcases Nat.lt_or_ge q a' with h | h
              · exact HA.out q z' h hz'
              · obtain rfl : q = a' := by omega
                rw [HZA.out] at hz'
                injection hz' with hz'
                rw [← hz']
                exact HBZ.out), Lib.hid (HGC.out.trans HCw5.out)⟩
            case measure => simp [intOf]; omega
          · obtain rfl : a' = p := by omega
            obtain rfl : z = x := by
              have h1 := HZA.out
              rw [HP.out] at h1
              injection h1 with h1
              exact h1.symm
            have hless : Op.bytesLess z.key z.key = false := by rw [less_before]; exact bef_irrefl _
            have heq := fun w => eq_ht z z w
            rw [decide_eq_true (rfl : z = z)] at heq
            unfold htV at heq
            go_wp2_with (fail)
            refine q_region (by kernel_rfl) (by kernel_rfl) ?_
            iterate 17 (refine q_op' (v := ?_) (a' := ?_) (by rfl) ?_ ?_ ?_
                        rotate_left 2
                        · intro w' hC
                          obtain ⟨⟨z0, z1, z2, z3⟩, v0, v1, v2, v3⟩ := HC.out w' hC
                          clear hC
                          go_simp
                          try with_reducible rfl
                        · simp only [Act.put, List.setIfInBounds_toArray, List.set_cons_zero, List.set_cons_succ]
                          try rfl)
            refine wpQuiet_nil ?_
            intro w5 hC
            have HCw5 := Lib.hid hC
            clear hC
            clear hless
            have HC5 := Lib.hid (fun w' (hC : Grows w5 w') => HC.out w' (HCw5.out.trans hC))
            go_wp2_with (fail)
            refine q_region (by kernel_rfl) (by kernel_rfl) ?_
            iterate 15 (refine q_op' (v := ?_) (a' := ?_) (by rfl) ?_ ?_ ?_
                        rotate_left 2
                        · intro w' hC
                          obtain ⟨⟨z0, z1, z2, z3⟩, v0, v1, v2, v3⟩ := HC5.out w' hC
                          clear hC
                          go_simp
                          try with_reducible rfl
                        · simp only [Act.put, List.setIfInBounds_toArray, List.set_cons_zero, List.set_cons_succ]
                          try rfl)
            refine wpQuiet_nil ?_
            intro w6 hC
            have HCw6 := Lib.hid hC
            clear hC
            clear heq
            go_wp2_with (fail)
            go_roundw
            case rel => exact ⟨a', j + 1, by omega, by omega, by go_num, rfl, Lib.hid (HNX.out a' HA.out), Lib.hid (HGC.out.trans (HCw5.out.trans HCw6.out))⟩
            case measure => simp [intOf]; omega

set_option maxRecDepth 100000 in
theorem hintParted_lifted (os : Os) (started : os.Started) (H : Type) (enc : TypeId × Value → H) :
    ReturnsInHanded {} Try.checked os 4 .any (Rows.hintPartedSpec.pre6 enc Try.prog Try.f4 Rows.hintPartedRow.domain false) (Rows.hintPartedSpec.post enc Try.prog Try.f4 false true false false) := by
  refine lift_law (C := Try.checked) H enc own started (by kernel_rfl) Try.func4
    (ChangeSpec.witness6 (enc := enc) (C := Try.checked) false ⟨#[], #[.slice none 0 0, .slice none 0 0], []⟩ 16 (by kernel_rfl) (by kernel_rfl) (by kernel_rfl) (by kernel_rfl))
    laidOut (of_readable (by kernel_rfl)) rfl Try.underlying4 rfl (fun ds hd => ?_) (fun W base args ds p hval hA hsz => ?_)
  · match ds, hd with
    | [d1, d2], _ => rfl
  · rw [Try.params4] at hA hval hsz
    obtain ⟨v0, vs0, d0, ds0, p0, q0, hargs, rfl, rfl, h0, r0⟩ := trodAll_cons hA
    obtain ⟨v1, vs1, d1, ds1, p1, q1, rfl, rfl, rfl, h1, r1⟩ := trodAll_cons r0
    obtain ⟨rfl, rfl, rfl⟩ := trodAll_nil r1
    obtain rfl : args = #[v0, v1] := by cases args; simp_all
    obtain ⟨A0, n0, c0, xs0, rfl, hx0, hb0⟩ := open_founds (hval 0 31 v0 rfl rfl) h0 hsz (j := 0) rfl rfl
    obtain ⟨A1, n1, c1, xs1, rfl, hx1, hb1⟩ := open_founds (hval 1 31 v1 rfl rfl) h1 hsz (j := 1) rfl rfl
    exact hintParted_law W A0 n0 c0 xs0 hx0 hb0 A1 n1 c1 xs1 hx1 hb1

theorem hintParted_over : Rows.hintPartedRow.holds Try.pinned (OpenSpec.ofChange Rows.hintPartedSpec) :=
  OpenClaim.holds_of_wide 4 Try.f4 rfl rfl rfl rfl rfl rfl rfl ⟨rfl, rfl, rfl, rfl, rfl⟩ rfl rfl rfl rfl rfl (by kernel_rfl) Try.func4 (by kernel_rfl)
    (of_decide_eq_true (by kernel_rfl)) (by unfold Func.isWrapper; first | (rw [if_pos (by decide +kernel)]; kernel_rfl) | (rw [if_neg (by decide +kernel)]; exact ⟨rfl, rfl⟩))
    (fun os started H enc _ => hintParted_lifted os started H enc)
theorem hintParted_holds : Rows.HintPartedSaid := hintParted_over
end Go.Proofs.Ytdjlhdeejpndcaa
