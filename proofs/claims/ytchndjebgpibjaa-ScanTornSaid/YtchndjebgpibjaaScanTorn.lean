/-
  ScanTorn holds of any bodies and any place: of frames that are cut anywhere those that are whole are found, and no other one; no condition.
-/
import Derived.Test.YtchndjebgpibjaaLawBits
import Derived.Test.YtchndjebgpibjaaGreat
import Derived.IntWalk
namespace Go.Proofs.Ytchndjebgpibjaa
open Go.ChangeShapes Go.WideShapes Go.ChangeAt Go.RowKit
attribute [local irreducible] Go.wpQuiet

/-- How far the first k of these reach. -/
def EndAt (ts : List It) (a k e : Nat) : Prop := (k = 0 → e = a) ∧ (0 < k → ∃ t, ts[k - 1]? = some t ∧ e = t.1 + t.2.1)
theorem EndAt.one {ts : List It} {a k e e' : Nat} (h : EndAt ts a k e) (h' : EndAt ts a k e') : e = e' := by
  rcases Nat.eq_zero_or_pos k with h0 | h0
  · rw [h.1 h0, h'.1 h0]
  · obtain ⟨t, h1, h2⟩ := h.2 h0
    obtain ⟨u, h3, h4⟩ := h'.2 h0
    rw [h1] at h3
    injection h3 with h3
    rw [h2, h4, h3]
/-- Frames that are cut. -/
theorem torn : ∀ (l : List (List UInt8)) (a m : Nat), m ≤ (putL l).length → ∃ K e, K ≤ (itsL l a).length ∧ allB ((putL l).take m) a = ((itsL l a).take K, 0, e, if e < a + m then 21 else 0) ∧
    (∀ j t, (itsL l a)[j]? = some t → (t.1 + t.2.1 ≤ a + m ↔ j < K)) ∧ EndAt (itsL l a) a K e
  | [], a, m, h => by
    have hm : m = 0 := by simpa [putL] using h
    subst hm
    exact ⟨0, a, Nat.zero_le _, by simp [putL, itsL, allB_nil], fun j t ht => by simp [itsL] at ht, fun _ => rfl, fun h => by omega⟩
  | b :: l, a, m, h => by
    rw [putL] at h ⊢
    rw [itsL]
    by_cases hb : Good b
    · rw [if_pos hb, putB_good hb] at *
      rw [List.length_append, frameB_length] at h
      by_cases hm : m < b.length + 8
      · rw [List.take_append_of_le_length (by rw [frameB_length]; omega)]
        have hj : ∀ j t, ((a, b.length + 8, b) :: itsL l (a + (b.length + 8)))[j]? = some t → (t.1 + t.2.1 ≤ a + m ↔ j < 0) := fun j t ht => by
          cases j with
          | zero => simp at ht; subst ht; dsimp only; omega
          | succ j =>
            rw [List.getElem?_cons_succ] at ht
            have := itsL_sizes l _ t (List.mem_of_getElem? ht)
            omega
        rcases Nat.eq_zero_or_pos m with h0 | h0
        · subst h0
          exact ⟨0, a, Nat.zero_le _, by simp [allB_nil], hj, fun _ => rfl, fun h => by omega⟩
        · have hne : (frameB b).take m ≠ [] := fun h => by
            have := congrArg List.length h
            rw [List.length_take, frameB_length] at this
            simp at this
            omega
          refine ⟨0, a, Nat.zero_le _, ?_, hj, fun _ => rfl, fun h => by omega⟩
          rw [allB_stop hne (first_short_cut b hb.1 hb.2 m hm) (by omega), if_pos (by omega)]
          simp
      · obtain ⟨K, e, h1, h2, h3, h4⟩ := torn l (a + (b.length + 8)) (m - (b.length + 8)) (by omega)
        rw [show a + (b.length + 8) + (m - (b.length + 8)) = a + m by omega] at h2 h3
        refine ⟨K + 1, e, by rw [List.length_cons]; omega, ?_, fun j t ht => ?_, fun h => by omega, fun _ => ?_⟩
        · rw [List.take_append, frameB_length, List.take_of_length_le (by rw [frameB_length]; omega), allB_got (frame_ne b _) (first_back b _ hb.1 hb.2), List.drop_left' (frameB_length b), h2]
          rfl
        · cases j with
          | zero => simp at ht; subst ht; dsimp only; omega
          | succ j =>
            rw [List.getElem?_cons_succ] at ht
            have := h3 j t ht
            omega
        · rcases Nat.eq_zero_or_pos K with h0 | h0
          · subst h0
            exact ⟨_, rfl, h4.1 rfl⟩
          · obtain ⟨t, h5, h6⟩ := h4.2 h0
            refine ⟨t, ?_, h6⟩
            rw [show K + 1 - 1 = (K - 1) + 1 by omega, List.getElem?_cons_succ]
            exact h5
    · rw [if_neg hb, putB_ill hb, List.nil_append] at *
      exact torn l a m h

set_option maxRecDepth 100000 in
set_option maxHeartbeats 8000000 in
theorem torn_law {w : World} (A : Option Addr) (n c : Nat) (ls : List (List UInt8)) (hs : Lists w A n c ls) (hcc : c ≤ 140737488351232) (v : Nat) (hv : v < 65536) :
    Calls Try.prog 6 #[.slice A n c, .int .u16 (v : Nat)] w fun e w' => e = .returned (.bool true) ∧ Below w.heap.size w w' := by
  have HC := Lib.hid hs
  clear hs
  have hn : n ≤ 140737488351232 := by have := HC.out.cap; omega
  go_enter Try.func6, Try.ntmps6
  go_wp2_with (fail)
  refine (head3_any _).mono ?_
  rintro e w1 ⟨rfl, hb1⟩
  have HG1 := Lib.hid (show Grows w w1 from hb1)
  clear hb1
  go_wp2_with (fail)
  refine (great_any A n c ls w1 (HC.out.grow HG1.out) hn).mono ?_
  rintro e w1' ⟨g, rfl, hsm, rfl⟩
  have HSM := Lib.hid hsm
  clear hsm
  rcases g with _ | _
  rotate_left 1
  · go_wp2_with (fail)
    go_ret
    exact ⟨rfl, HG1.out⟩
  have hsmall := HSM.out rfl
  have hbound := small_put hsmall
  have HS := Lib.hid hsmall
  clear hsmall HSM
  go_wp2_with (fail)
  refine (put_rows A n c ls w1 (HC.out.grow HG1.out) HS.out).mono ?_
  rintro e w2 ⟨OA, oc, IA, lc, hh, rfl, ho2, hi2, hly2, hb2⟩
  have g2 : Grows w1 w2 := hb2
  have hcount := itsL_count ls 0
  have HB2 := Lib.hid (Sl.owned ho2)
  have HI2 := Lib.hid (Items.owned hly2.1.symm rfl hi2 (hly2.grow g2).2)
  have HG2 := Lib.hid (Grows.trans HG1.out g2)
  clear ho2 hi2 hly2 hb2 g2
  have hj : v % ((putL ls).length + 1) < (putL ls).length + 1 := Nat.mod_lt _ (by omega)
  obtain ⟨K, e, hK, hall, hin, hend⟩ := torn ls 0 (v % ((putL ls).length + 1)) (by omega)
  rw [Nat.zero_add] at hall hin
  have hcell := fun (t : It) (h : t ∈ itsL ls 0) => itsL_sizes ls 0 t h
  generalize hts : itsL ls 0 = ts at *
  generalize hbs : putL ls = bs at *
  have hr1 : ((v : Nat) : Int).tmod ((bs.length : Int) + 1) = ((v % (bs.length + 1) : Nat) : Int) := by rw [Int.tmod_eq_emod_of_nonneg (by omega)]; rfl
  have hr2 : ((v : Nat) : Int) % ((bs.length : Int) + 1) = ((v % (bs.length + 1) : Nat) : Int) := rfl
  generalize v % (bs.length + 1) = m at *
  have HA := Lib.hid hall
  have HIN := Lib.hid hin
  have HEND := Lib.hid hend
  have HCS := Lib.hid hcell
  have HEQ := Lib.hid (And.intro hts hbs)
  have hrz : ¬ ((bs.length : Int) + 1 = 0) := by omega
  clear hall hin hend hcell hts hbs
  go_wp2_with (fail)
  clear hr1 hr2 hrz
  go_loopw [9, 10] (fun i x wr => ∃ (k e' : Nat), k ≤ K ∧ e' ≤ 200000 ∧ i = .int .i64 (k : Nat) ∧ x = .int .i64 (e' : Nat) ∧ Hid (EndAt ts 0 k e') ∧ Hid (Grows w2 wr)) (fun i _ _ => ts.length - (intOf i).toNat)
  case atStart => exact ⟨0, 0, by omega, by omega, rfl, rfl, Lib.hid ⟨fun _ => rfl, fun h => by omega⟩, Lib.hid (Grows.refl _)⟩
  case round =>
    obtain ⟨k, e', hk, he', rfl, rfl, HE, HGR⟩ := hrel
    have hck : IntKind.i64.wrap ((k : Int) + 1) = (k : Int) + 1 := IntWalk.i64_in _ (by omega)
    clear hck
    by_cases hlt : k < ts.length
    · obtain ⟨LA, B1, m1, d1, rfl, p0, p1, -, -⟩ := (HI2.out.grow HGR.out).spot hlt
      obtain ⟨t, ht⟩ : ∃ t, ts[k]? = some t := ⟨_, List.getElem?_eq_getElem hlt⟩
      have hgd : ts.getD k (0, 0, []) = t := by rw [List.getD_eq_getElem?_getD, ht]; rfl
      rw [hgd] at p0 p1
      have hsz := HCS.out t (List.mem_of_getElem? ht)
      have hiff := HIN.out k t ht
      have hnext : EndAt ts 0 (k + 1) (t.1 + t.2.1) := ⟨fun h => by omega, fun _ => ⟨t, ht, rfl⟩⟩
      obtain ⟨t0, t1, t2⟩ := t
      dsimp only at p0 p1 hsz hiff hnext
      have HC1 := Lib.hid p0
      have HC2 := Lib.hid p1
      have HNX := Lib.hid hnext
      have k0 : (0 : Int) ≤ (k : Int) := by omega
      have k1 : (k : Int) < (ts.length : Int) := by omega
      have hs1 : t0 + t1 ≤ 180000 := by omega
      clear p0 p1 hsz ht hgd hnext
      by_cases hle : t0 + t1 ≤ m
      · have hkK : k < K := hiff.1 hle
        have hd1 : decide ((t0 : Int) + (t1 : Int) ≤ (m : Int)) = true := by simp; omega
        have hd2 : (t0 : Int) + (t1 : Int) ≤ (m : Int) := by omega
        clear hiff
        go_wp2_with (fail)
        have hw : IntKind.i64.wrap ((t0 : Int) + (t1 : Int)) = (t0 : Int) + (t1 : Int) := IntWalk.i64_in _ (by omega)
        refine q_region (by kernel_rfl) (by kernel_rfl) ?_
        iterate 19 (refine q_op' (v := ?_) (a' := ?_) (by rfl) ?_ ?_ ?_
                    rotate_left 2
                    · intro w' hC
                      have c1 := HC1.out w' hC
                      have c2 := HC2.out w' hC
                      clear hC
                      go_simp
                      try with_reducible rfl
                    · simp only [Act.put, List.setIfInBounds_toArray, List.set_cons_zero, List.set_cons_succ]
                      try rfl)
        refine wpQuiet_nil ?_
        intro w5 hC
        have HCw5 := Lib.hid hC
        clear hC
        clear hw
        go_wp2_with (fail)
        have HC1' := Lib.hid (fun w' h => HC1.out w' (Grows.trans HCw5.out h))
        have HC2' := Lib.hid (fun w' h => HC2.out w' (Grows.trans HCw5.out h))
        clear HC1 HC2
        have HC1 := HC1'
        have HC2 := HC2'
        have hw : IntKind.i64.wrap ((t0 : Int) + (t1 : Int)) = (t0 : Int) + (t1 : Int) := IntWalk.i64_in _ (by omega)
        refine q_region (by kernel_rfl) (by kernel_rfl) ?_
        iterate 12 (refine q_op' (v := ?_) (a' := ?_) (by rfl) ?_ ?_ ?_
                    rotate_left 2
                    · intro w' hC
                      have c1 := HC1.out w' hC
                      have c2 := HC2.out w' hC
                      clear hC
                      go_simp
                      try with_reducible rfl
                    · simp only [Act.put, List.setIfInBounds_toArray, List.set_cons_zero, List.set_cons_succ]
                      try rfl)
        refine wpQuiet_nil ?_
        intro w6 hC
        have HCw6 := Lib.hid hC
        clear hC
        clear hw
        go_wp2_with (fail)
        go_roundw
        case rel => exact ⟨k + 1, t0 + t1, by omega, by omega, by go_num, by go_num, HNX, Lib.hid (Grows.trans HGR.out (Grows.trans HCw5.out HCw6.out))⟩
        case measure => simp [intOf]; omega
      · have hkK : ¬ k < K := fun h => hle (hiff.2 h)
        obtain rfl : k = K := by omega
        have hee := HEND.out.one HE.out
        subst hee
        have hd1 : decide ((t0 : Int) + (t1 : Int) ≤ (m : Int)) = false := by simp; omega
        have hd2 : (m : Int) < (t0 : Int) + (t1 : Int) := by omega
        clear hiff
        go_wp2_with (fail)
        have hw : IntKind.i64.wrap ((t0 : Int) + (t1 : Int)) = (t0 : Int) + (t1 : Int) := IntWalk.i64_in _ (by omega)
        refine q_region (by kernel_rfl) (by kernel_rfl) ?_
        iterate 19 (refine q_op' (v := ?_) (a' := ?_) (by rfl) ?_ ?_ ?_
                    rotate_left 2
                    · intro w' hC
                      have c1 := HC1.out w' hC
                      have c2 := HC2.out w' hC
                      clear hC
                      go_simp
                      try with_reducible rfl
                    · simp only [Act.put, List.setIfInBounds_toArray, List.set_cons_zero, List.set_cons_succ]
                      try rfl)
        refine wpQuiet_nil ?_
        intro w5 hC
        have HCw5 := Lib.hid hC
        clear hC
        have HG3 := Lib.hid (Grows.trans HGR.out HCw5.out)
        clear hd1 hd2 hkK HC1 HC2 hw
        have hsl := (HB2.out.grow HG3.out).first (k := m) (by omega)
        have h3 := all_in OA m oc (bs.take m) _ hsl (by omega)
        rw [HA.out] at h3
        dsimp only at h3
        have HH3 := Lib.hid h3
        have hoc := HB2.out.cap
        have hoc1 : (m : Int) ≤ (oc : Int) := by omega
        clear h3 hsl
        go_wp2_with (fail)
        refine HH3.out.mono ?_
        rintro e w6 ⟨A3, c3, hh3, rfl, ho3, hbd3, hb3⟩
        have g3 : Grows _ w6 := hb3
        have hKt : (ts.take k).length = k := by rw [List.length_take]; omega
        have hit := items_own rfl ho3 hbd3
        rw [hKt] at hit
        rw [hKt]
        have HI3 := Lib.hid hit
        have hlc := HI2.out.cap
        have hlc' : (k : Int) ≤ (lc : Int) := by omega
        have HJ3 := Lib.hid ((HI2.out.grow (Grows.trans HG3.out g3)).first (k := k) (by omega))
        have HG6 := Lib.hid (Grows.trans HG2.out (Grows.trans HG3.out g3))
        clear ho3 hbd3 hb3 g3 hit hKt
        by_cases hem : e < m
        all_goals
          first | rw [if_pos hem] | rw [if_neg hem]
          go_wp2_with (fail)
          have hsame := same_any A3 k c3 (ts.take k) _ k lc (ts.take k) _ HI3.out HJ3.out (by omega) (by omega)
          rw [decide_eq_true rfl] at hsame
          refine hsame.mono ?_
          clear hsame
          rintro e w7 ⟨rfl, hb7⟩
          have HG7 := Lib.hid (Grows.trans HG6.out (show Grows w6 w7 from hb7))
          clear hb7
          go_wp2_with (fail)
          go_ret
          exact ⟨rfl, HG7.out⟩
    · obtain rfl : k = ts.length := by omega
      obtain rfl : ts.length = K := by omega
      have hee := HEND.out.one HE.out
      subst hee
      have hnot : ¬ ts.length < ts.length := by omega
      go_wp2_with (fail)
      refine q_region (by kernel_rfl) (by kernel_rfl) ?_
      iterate 5 (refine q_op' (v := ?_) (a' := ?_) (by rfl) ?_ ?_ ?_
                 rotate_left 2
                 · intro w' hC
                   clear hC
                   go_simp
                   try with_reducible rfl
                 · simp only [Act.put, List.setIfInBounds_toArray, List.set_cons_zero, List.set_cons_succ]
                   try rfl)
      iterate 13 (refine q_skip' (a' := ?_) (by rfl) ?_ ?_
                  rotate_left 1
                  · simp only [Act.put, List.setIfInBounds_toArray, List.set_cons_zero, List.set_cons_succ]
                    try rfl)
      iterate 1 (refine q_op' (v := ?_) (a' := ?_) (by rfl) ?_ ?_ ?_
                 rotate_left 2
                 · intro w' hC
                   clear hC
                   go_simp
                   try with_reducible rfl
                 · simp only [Act.put, List.setIfInBounds_toArray, List.set_cons_zero, List.set_cons_succ]
                   try rfl)
      refine wpQuiet_nil ?_
      intro w5 hC
      have HCw5 := Lib.hid hC
      clear hC
      have HG3 := Lib.hid (Grows.trans HGR.out HCw5.out)
      have hsl := (HB2.out.grow HG3.out).first (k := m) (by omega)
      have h3 := all_in OA m oc (bs.take m) _ hsl (by omega)
      rw [HA.out] at h3
      dsimp only at h3
      have HH3 := Lib.hid h3
      have hoc := HB2.out.cap
      have hoc1 : (m : Int) ≤ (oc : Int) := by omega
      clear h3 hsl
      go_wp2_with (fail)
      refine HH3.out.mono ?_
      rintro e w6 ⟨A3, c3, hh3, rfl, ho3, hbd3, hb3⟩
      have g3 : Grows _ w6 := hb3
      have hKt : (ts.take ts.length).length = ts.length := by rw [List.length_take]; omega
      have hit := items_own rfl ho3 hbd3
      rw [hKt] at hit
      rw [hKt]
      have HI3 := Lib.hid hit
      have hlc := HI2.out.cap
      have hlc' : (ts.length : Int) ≤ (lc : Int) := by omega
      have HJ3 := Lib.hid ((HI2.out.grow (Grows.trans HG3.out g3)).first (k := ts.length) (by omega))
      have HG6 := Lib.hid (Grows.trans HG2.out (Grows.trans HG3.out g3))
      clear ho3 hbd3 hb3 g3 hit hKt
      by_cases hem : e < m
      all_goals
        first | rw [if_pos hem] | rw [if_neg hem]
        go_wp2_with (fail)
        have hsame := same_any A3 ts.length c3 (ts.take ts.length) _ ts.length lc (ts.take ts.length) _ HI3.out HJ3.out (by omega) (by omega)
        rw [decide_eq_true rfl] at hsame
        refine hsame.mono ?_
        clear hsame
        rintro e w7 ⟨rfl, hb7⟩
        have HG7 := Lib.hid (Grows.trans HG6.out (show Grows w6 w7 from hb7))
        clear hb7
        go_wp2_with (fail)
        go_ret
        exact ⟨rfl, HG7.out⟩

set_option maxRecDepth 100000 in
theorem scanTorn_lifted (os : Os) (started : os.Started) (H : Type) (enc : TypeId × Value → H) :
    ReturnsInHanded {} Try.checked os 6 .any (Rows.scanTornSpec.pre6 enc Try.prog Try.f6 Rows.scanTornRow.domain false) (Rows.scanTornSpec.post enc Try.prog Try.f6 false true false false) := by
  refine lift_law (C := Try.checked) H enc own started (by kernel_rfl) Try.func6
    (ChangeSpec.witness6 (enc := enc) (C := Try.checked) false ⟨#[], #[.slice none 0 0, .int .u16 0], []⟩ 16 (by kernel_rfl) (by kernel_rfl) (by kernel_rfl) (by kernel_rfl))
    laidOut (of_readable (by kernel_rfl)) rfl Try.underlying4 rfl (fun ds hd => ?_) (fun W base args ds p hval hA hsz => ?_)
  · match ds, hd with
    | [d1, d2], _ => rfl
  · rw [Try.params6] at hA hval hsz
    obtain ⟨v0, vs0, d0, ds0, p0, q0, hargs, rfl, rfl, h0, r0⟩ := trodAll_cons hA
    obtain ⟨v1, vs1, d1, ds1, p1, q1, rfl, rfl, rfl, h1, r1⟩ := trodAll_cons r0
    obtain ⟨rfl, rfl, rfl⟩ := trodAll_nil r1
    obtain rfl : args = #[v0, v1] := by cases args; simp_all
    obtain ⟨A0, n0, c0, xs0, rfl, hx0, hc0⟩ := open_rows Try.underlying34 Try.underlying22 Try.underlying5 (by kernel_rfl) (by kernel_rfl) (by kernel_rfl) (hval 0 34 v0 rfl rfl) h0 hsz (j := 0) rfl rfl
    obtain ⟨a1, rfl, _, _, w1⟩ := open_int Try.underlying38 (hval 1 38 v1 rfl rfl) h1
    have b1 := bounds_u16 w1
    obtain ⟨s1, rfl⟩ := Int.eq_ofNat_of_zero_le b1.1
    exact torn_law A0 n0 c0 xs0 hx0 hc0 s1 (by omega)

theorem scanTorn_over : Rows.scanTornRow.holds Try.pinned (OpenSpec.ofChange Rows.scanTornSpec) :=
  OpenClaim.holds_of_wide 6 Try.f6 rfl rfl rfl rfl rfl rfl rfl ⟨rfl, rfl, rfl, rfl, rfl⟩ rfl rfl rfl rfl rfl (by kernel_rfl) Try.func6 (by kernel_rfl)
    (of_decide_eq_true (by kernel_rfl)) (by unfold Func.isWrapper; first | (rw [if_pos (by decide +kernel)]; kernel_rfl) | (rw [if_neg (by decide +kernel)]; exact ⟨rfl, rfl⟩))
    (fun os started H enc _ => scanTorn_lifted os started H enc)
theorem scanTorn_holds : Rows.ScanTornSaid := scanTorn_over
end Go.Proofs.Ytchndjebgpibjaa
