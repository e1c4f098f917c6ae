/-
  Statement SegApart: what is added to one segment changes no other one. Any two lists of records, no condition.
-/
import Derived.Test.YtgemjdacnomnhaaMG
import Derived.Test.YtgemjdacnomnhaaSgRecs
import Derived.Test.YtgemjdacnomnhaaSgSame
import Derived.Test.YtgemjdacnomnhaaMJ
import Derived.ProofKit
import Derived.ChangeOld
namespace Go.Proofs.Ytgemjdacnomnhaa
open Go.ChangeShapes Go.WideShapes Go.ChangeAt Go.RowKit
set_option linter.unusedSimpArgs false
set_option linter.unusedVariables false
theorem less_oneS {k n : Nat} (h : k < n) : n - (intOf (Value.int IntKind.i64 ((k : Int) + 1))).toNat < n - (intOf (Value.int IntKind.i64 (k : Int))).toNat := by
  simp only [intOf]
  omega
theorem loc_small {r : Rc} (h : RightR r) : r.locs.length ≤ 1000000 := by
  rcases h with h | h | h | h
  · have := h.2; unfold PieceOk at this; simp_all
  · have h1 := put_len (r := r) (.inr (.inl h))
    rw [if_pos h.1] at h1
    have h2 := put_small r
    omega
  · have h1 : r.locs.length = 0 := h.2.1.2.2.2
    omega
  · have h1 : r.locs.length = 0 := h.2.1.2.2.2
    omega
theorem found_right : ∀ (rs : List Rc) (a : Nat), (∀ r ∈ rs, RightR r) → ∀ x ∈ foundL rs a, RightR x.2.2
  | [], _, _, x, hx => by cases hx
  | r :: rs, a, h, x, hx => by
    rcases List.mem_cons.1 hx with rfl | hx
    · exact h r (List.mem_cons_self ..)
    · exact found_right rs _ (fun y hy => h y (List.mem_cons_of_mem _ hy)) x hx
set_option maxHeartbeats 16000000 in
set_option maxRecDepth 100000 in
theorem segApart_law (w : World) (A0 : Option Addr) (n0 c0 : Nat) (ls : List Rc) (hl : Recs w A0 n0 c0 ls) (A1 : Option Addr) (n1 c1 : Nat) (ms : List Rc) (hm : Recs w A1 n1 c1 ms) :
    Calls Try.prog 9 #[.slice A0 n0 c0, .slice A1 n1 c1] w fun e w' => e = .returned (.bool true) ∧ Below w.heap.size w w' := by
  have HL := Lib.hid hl
  have HM := Lib.hid hm
  clear hl hm
  go_enter Try.func9, Try.ntmps9
  go_wp2_with (fail)
  refine (head9_any w).mono ?_
  rintro e w0 ⟨rfl, hb0⟩
  have HB0 := Lib.hid hb0
  clear hb0
  go_wp2_with (fail)
  refine (new_any w0 16777216).mono ?_
  rintro e w1 ⟨d, rfl, hn⟩
  have HD := Lib.hid (show DkIn w.heap.size w w1 d (fun _ => False) Go.Proofs.Ytgemjdacnomnhaa.A0 from DkIn.new hn HB0.out.size HB0.out (fun k h => h.elim))
  clear hn
  by_cases h60 : n0 ≤ 60
  rotate_left 1
  · have h60' : (n0 : Int) > 60 := by omega
    go_wp2_with (fail)
    go_ret
    exact ⟨rfl, HD.out.low⟩
  have h60' : ¬ ((n0 : Int) > 60) := by omega
  by_cases g60 : n1 ≤ 60
  rotate_left 1
  · have g60' : (n1 : Int) > 60 := by omega
    go_wp2_with (fail)
    go_ret
    exact ⟨rfl, HD.out.low⟩
  have g60' : ¬ ((n1 : Int) > 60) := by omega
  go_wp2_with (fail)
  refine (segMake_any w1 1 (by omega) HD.out A0ok (by omega)).mono ?_
  rintro e w2 ⟨rfl, hd, hst⟩
  have HD2 := Lib.hid (show DkIn w.heap.size w w2 d (fun _ => False) Go.Proofs.Ytgemjdacnomnhaa.A1 from hd)
  clear hd hst HD
  go_wp2_with (fail)
  refine (segMake_any w2 2 (by omega) HD2.out A1ok (by omega)).mono ?_
  rintro e w3 ⟨rfl, hd, hst⟩
  have HD3 := Lib.hid (show DkIn w.heap.size w w3 d (fun _ => False) A2 from hd)
  clear hd hst HD2
  go_wp2_with (fail)
  go_loopw [7] (fun vi wr => ∃ (j : Nat) (m : Dk), j ≤ n0 ∧ vi = .int .i64 (j : Nat) ∧ Hid (DkIn w.heap.size w wr d (fun _ => False) m) ∧ Hid (SI m (rightL (ls.take j)) [] j)) (fun i _ => n0 - (intOf i).toNat)
  case atStart => exact ⟨0, A2, Nat.zero_le _, rfl, HD3, Lib.hid SI.start⟩
  case round =>
    obtain ⟨j, m, hj, rfl, HW, HSI⟩ := hrel
    clear HD3
    by_cases hlt : j < n0
    · have hlt' : (j : Int) < (n0 : Int) := by omega
      have hj0 : (0 : Int) ≤ (j : Int) := by omega
      have HK := Lib.hid (show 100 + 8200 * j ≤ 900000 ∧ j ≤ 200 by omega)
      obtain ⟨ad, o, p, rfl, hblk, hoi, hin, hcs⟩ := HL.out.spot j hlt
      obtain ⟨q0, q1, q2, q3, q4, q5, q6⟩ := rc_cells (by rw [add_block]; exact hblk) hcs HW.out.low
      have HLT := Lib.hid hlt
      have HOI := Lib.hid hoi
      have HIN := Lib.hid (hin.grow HW.out.low)
      obtain ⟨⟨LA, ln, lc⟩, ⟨BA, bn, bc⟩⟩ := p
      dsimp only at q5 q6 HIN
      have hadd := segAdd_any wr 1 o HIN.out HW.out HSI.out.ok (by have := HK.out; omega)
      have hnext := rightL_take hoi
      obtain ⟨s, hs⟩ : ∃ s : ByteArray, (⟨o.key.toArray⟩ : ByteArray) = s := ⟨_, rfl⟩
      obtain ⟨k0, hk0⟩ : ∃ k, o.kind = k := ⟨_, rfl⟩
      obtain ⟨i0, hi0⟩ : ∃ k, o.id = k := ⟨_, rfl⟩
      obtain ⟨n9, hn9⟩ : ∃ k, o.no = k := ⟨_, rfl⟩
      obtain ⟨z0, hz0⟩ : ∃ k, o.size = k := ⟨_, rfl⟩
      rw [hs, hk0, hi0, hn9, hz0] at hadd
      rw [hs] at q1
      rw [hk0] at q0
      rw [hi0] at q2
      rw [hn9] at q3
      rw [hz0] at q4
      have HADD := Lib.hid hadd
      have HNX := Lib.hid hnext
      clear hblk hoi hin hcs hadd hnext hs hk0 hi0 hn9 hz0
      by_cases b1 : bn ≤ 20000
      rotate_left 1
      · have b1' : (bn : Int) > 20000 := by omega
        go_wp2_with (fail)
        go_ret
        exact ⟨rfl, HW.out.low⟩
      have b1' : ¬ ((bn : Int) > 20000) := by omega
      by_cases b2 : ln ≤ 2000
      rotate_left 1
      · have b2' : (ln : Int) > 2000 := by omega
        go_wp2_with (fail)
        go_ret
        exact ⟨rfl, HW.out.low⟩
      have b2' : ¬ ((ln : Int) > 2000) := by omega
      by_cases b3 : s.size ≤ 2000
      rotate_left 1
      · have b3' : (s.size : Int) > 2000 := by omega
        go_wp2_with (fail)
        go_ret
        exact ⟨rfl, HW.out.low⟩
      have b3' : ¬ ((s.size : Int) > 2000) := by omega
      go_wp2_with (fail)
      refine HADD.out.mono ?_
      rintro e w5 ⟨rfl, hd, hst⟩
      have hsi := HSI.out.add1 HK.out.2 o
      rw [← HNX.out] at hsi
      have HD5 := Lib.hid hd
      have HSI5 := Lib.hid hsi
      clear hd hst hsi
      go_wp2_with (fail)
      exact ⟨⟨j + 1, _, HLT.out, rfl, HD5, HSI5⟩, less_oneS HLT.out⟩
    · obtain rfl : j = n0 := by omega
      obtain ⟨wa, rfl⟩ : ∃ x, x = wr := ⟨_, rfl⟩
      have hlt' : ¬ ((j : Int) < (j : Int)) := by omega
      have HK := Lib.hid (show 100 + 8200 * j ≤ 900000 ∧ j ≤ 60 by omega)
      have hall := segAll_any wa 1 (by omega) HW.out HSI.out.ok (by have := HK.out; omega)
      rw [HSI.out.all] at hall
      have HALL := Lib.hid hall
      have hsz := HSI.out.one.size
      obtain ⟨zz, hzz⟩ : ∃ z : Int, (((segB 1 (rightL (ls.take j))).length : Nat) : Int) = z := ⟨_, rfl⟩
      rw [hzz] at hsz
      have HSZ := Lib.hid hsz
      have HZZ := Lib.hid hzz
      clear hall hsz hzz
      go_wp2_with (fail)
      refine HALL.out.mono ?_
      rintro e w5 ⟨FA, fc, fl, rfl, hf, hfl, hg5⟩
      have HD5 := Lib.hid ((HW.out.more hg5).less (out' := fun k => wa.heap.size ≤ k ∧ k < w5.heap.size) fun k hk => .inr hk)
      have HF := Lib.hid (And.intro hf hfl)
      clear hf hfl hg5 HALL
      go_wp2_with (fail)
      refine (segSizeOf_any w5 1 HD5.out HSZ.out).mono ?_
      rintro e w6 ⟨rfl, hg6⟩
      have HD6 := Lib.hid (HD5.out.grow hg6)
      have HF6 := Lib.hid (show Stays w.heap.size (fun k => wa.heap.size ≤ k ∧ k < w5.heap.size) w5 w6 from Stays.grows hg6)
      clear hg6
      go_wp2_with (fail)
      go_loopw [12] (fun vi wx => ∃ (i : Nat) (m : Dk), i ≤ n1 ∧ vi = .int .i64 (i : Nat) ∧ Hid (DkIn w.heap.size w wx d (fun k => wa.heap.size ≤ k ∧ k < w5.heap.size) m) ∧ Hid (SI m (rightL (ls.take j)) (rightL (ms.take i)) (j + i)) ∧ Hid (Stays w.heap.size (fun k => wa.heap.size ≤ k ∧ k < w5.heap.size) w5 wx)) (fun i _ => n1 - (intOf i).toNat)
      case atStart => exact ⟨0, m, Nat.zero_le _, rfl, HD6, HSI, HF6⟩
      case round =>
        obtain ⟨i, m2, hj2, rfl, HW2, HSI, HFX⟩ := hrel
        clear HD6 HF6
        by_cases hlt : i < n1
        · have hlt' : (i : Int) < (n1 : Int) := by omega
          have hj0 : (0 : Int) ≤ (i : Int) := by omega
          have HK := Lib.hid (show 100 + 8200 * (j + i) ≤ 990000 ∧ j + i ≤ 200 by omega)
          obtain ⟨ad, o, p, rfl, hblk, hoi, hin, hcs⟩ := HM.out.spot i hlt
          obtain ⟨q0, q1, q2, q3, q4, q5, q6⟩ := rc_cells (by rw [add_block]; exact hblk) hcs HW2.out.low
          have HLT := Lib.hid hlt
          have HOI := Lib.hid hoi
          have HIN := Lib.hid (hin.grow HW2.out.low)
          obtain ⟨⟨LA, ln, lc⟩, ⟨BA, bn, bc⟩⟩ := p
          dsimp only at q5 q6 HIN
          have hadd := segAdd_any wr 2 o HIN.out HW2.out HSI.out.ok (by have := HK.out; omega)
          have hnext := rightL_take hoi
          obtain ⟨s, hs⟩ : ∃ s : ByteArray, (⟨o.key.toArray⟩ : ByteArray) = s := ⟨_, rfl⟩
          obtain ⟨k0, hk0⟩ : ∃ k, o.kind = k := ⟨_, rfl⟩
          obtain ⟨i0, hi0⟩ : ∃ k, o.id = k := ⟨_, rfl⟩
          obtain ⟨n9, hn9⟩ : ∃ k, o.no = k := ⟨_, rfl⟩
          obtain ⟨z0, hz0⟩ : ∃ k, o.size = k := ⟨_, rfl⟩
          rw [hs, hk0, hi0, hn9, hz0] at hadd
          rw [hs] at q1
          rw [hk0] at q0
          rw [hi0] at q2
          rw [hn9] at q3
          rw [hz0] at q4
          have HADD := Lib.hid hadd
          have HNX := Lib.hid hnext
          clear hblk hoi hin hcs hadd hnext hs hk0 hi0 hn9 hz0
          by_cases b1 : bn ≤ 20000
          rotate_left 1
          · have b1' : (bn : Int) > 20000 := by omega
            go_wp2_with (fail)
            go_ret
            exact ⟨rfl, HW2.out.low⟩
          have b1' : ¬ ((bn : Int) > 20000) := by omega
          by_cases b2 : ln ≤ 2000
          rotate_left 1
          · have b2' : (ln : Int) > 2000 := by omega
            go_wp2_with (fail)
            go_ret
            exact ⟨rfl, HW2.out.low⟩
          have b2' : ¬ ((ln : Int) > 2000) := by omega
          by_cases b3 : s.size ≤ 2000
          rotate_left 1
          · have b3' : (s.size : Int) > 2000 := by omega
            go_wp2_with (fail)
            go_ret
            exact ⟨rfl, HW2.out.low⟩
          have b3' : ¬ ((s.size : Int) > 2000) := by omega
          go_wp2_with (fail)
          refine HADD.out.mono ?_
          rintro e w5 ⟨rfl, hd, hst⟩
          have hsi := HSI.out.add2 HK.out.2 o
          rw [← HNX.out] at hsi
          have HD7 := Lib.hid hd
          have HSI7 := Lib.hid hsi
          have HFX7 := Lib.hid (HFX.out.trans hst)
          clear hd hst hsi
          go_wp2_with (fail)
          exact ⟨⟨i + 1, _, HLT.out, rfl, HD7, HSI7, HFX7⟩, less_oneS HLT.out⟩
        · obtain rfl : i = n1 := by omega
          have hlt' : ¬ ((i : Int) < (i : Int)) := by omega
          obtain ⟨wb, rfl⟩ : ∃ x, x = wr := ⟨_, rfl⟩
          have HK2 := Lib.hid (show 100 + 8200 * (j + i) ≤ 990000 ∧ j ≤ 60 by omega)
          have hall := segAll_any wb 1 (by omega) HW2.out HSI.out.ok (by have := HK2.out; omega)
          rw [HSI.out.all] at hall
          have HALL := Lib.hid hall
          have hsz := HSI.out.one.size
          rw [HZZ.out] at hsz
          have HSZ2 := Lib.hid hsz
          have hf2 := HF.out.1.same (w' := wb) fun k h1 h2 => HFX.out.same k h2 fun e => e.2 ⟨h1, h2⟩
          have HF2 := Lib.hid (And.intro hf2 HF.out.2)
          have hfn : fl.length ≤ j := by
            have h1 := congrArg List.length HF.out.2
            rw [List.length_map, foundL_length] at h1
            have h2 := rightL_length (ls.take j)
            have h3 := List.length_take_le j ls
            omega
          have HFN := Lib.hid hfn
          clear hall hsz hf2 hfn
          go_wp2_with (fail)
          refine HALL.out.mono ?_
          rintro e w8 ⟨GA, gc, gl, rfl, hf, hfl, hg8⟩
          have hsame := sameF_any w8 fl gl FA fl.length fc GA gl.length gc (HF2.out.1.fnds.grow hg8) hf.fnds (by have := HFN.out; have := HK2.out.2; omega) (fun p hp => by
            have h1 := (HF2.out.1.recs p hp).len
            have h2 : p.1 ∈ foundL (rightL (ls.take j)) 13 := by rw [← HF2.out.2]; exact List.mem_map.2 ⟨p, hp, rfl⟩
            have h3 := loc_small (found_right _ _ rightL_right _ h2)
            omega)
          rw [decide_eq_true (show fnsOf fl = fnsOf gl from HF2.out.2.trans hfl.symm)] at hsame
          have HSAME := Lib.hid hsame
          have HD8 := Lib.hid (HW2.out.grow hg8)
          have hle : (fl.length : Int) ≤ (j : Int) := by have := HFN.out; omega
          obtain ⟨nf, hnf⟩ : ∃ nf, fl.length = nf := ⟨_, rfl⟩
          obtain ⟨ng, hng⟩ : ∃ ng, gl.length = ng := ⟨_, rfl⟩
          rw [hnf, hng] at HSAME
          rw [hnf] at hle
          rw [hng]
          try rw [hnf]
          clear hf hfl hg8 hsame hnf hng
          go_wp2_with (fail)
          refine HSAME.out.mono ?_
          rintro e w9 ⟨rfl, hg9⟩
          have HD9 := Lib.hid (HD8.out.grow hg9)
          clear hg9 HSAME
          go_wp2_with (fail)
          refine (segSizeOf_any w9 1 HD9.out HSZ2.out).mono ?_
          rintro e w10 ⟨rfl, hg10⟩
          have HD10 := Lib.hid (HD9.out.grow hg10)
          clear hg10
          go_wp2_with (fail)
          go_ret
          exact ⟨by simp, HD10.out.low⟩

set_option maxRecDepth 100000 in
theorem segApart_lifted (os : Os) (started : os.Started) (H : Type) (enc : TypeId × Value → H) :
    ReturnsInHanded {} Try.checked os 9 .any (Rows.segApartSpec.pre6 enc Try.prog Try.f9 Rows.segApartRow.domain false) (Rows.segApartSpec.post enc Try.prog Try.f9 false true false false) := by
  refine lift_law (C := Try.checked) H enc own started (by kernel_rfl) Try.func9
    (ChangeSpec.witness6 (enc := enc) (C := Try.checked) false ⟨#[], #[.slice none 0 0, .slice none 0 0], []⟩ 16 (by kernel_rfl) (by kernel_rfl) (by kernel_rfl) (by kernel_rfl))
    laidOut (of_readable (by kernel_rfl)) rfl Try.underlying4 rfl (fun ds hd => ?_) (fun W base args ds p hval hA hsz => ?_)
  · match ds, hd with
    | [d1, d2], _ => rfl
  · rw [Try.params9] at hA hval hsz
    obtain ⟨v0, vs0, d0, ds0, p0, q0, hargs, rfl, rfl, h0, r0⟩ := trodAll_cons hA
    obtain ⟨v1, vs1, d1, ds1, p1, q1, rfl, rfl, rfl, h1, r1⟩ := trodAll_cons r0
    obtain ⟨rfl, rfl, rfl⟩ := trodAll_nil r1
    obtain rfl : args = #[v0, v1] := by cases args; simp_all
    obtain ⟨A0, n0, c0, xs0, rfl, hx0⟩ := open_recs (hval 0 47 v0 rfl rfl) h0
    obtain ⟨A1, n1, c1, xs1, rfl, hx1⟩ := open_recs (hval 1 47 v1 rfl rfl) h1
    exact segApart_law W A0 n0 c0 xs0 hx0 A1 n1 c1 xs1 hx1

theorem segApart_over : Rows.segApartRow.holds Try.pinned (OpenSpec.ofChange Rows.segApartSpec) :=
  OpenClaim.holds_of_wide 9 Try.f9 rfl rfl rfl rfl rfl rfl rfl ⟨rfl, rfl, rfl, rfl, rfl⟩ rfl rfl rfl rfl rfl (by kernel_rfl) Try.func9 (by kernel_rfl)
    (of_decide_eq_true (by kernel_rfl)) (by unfold Func.isWrapper; first | (rw [if_pos (by decide +kernel)]; kernel_rfl) | (rw [if_neg (by decide +kernel)]; exact ⟨rfl, rfl⟩))
    (fun os started H enc _ => segApart_lifted os started H enc)
theorem segApart_holds : Rows.SegApartSaid := segApart_over
end Go.Proofs.Ytgemjdacnomnhaa
