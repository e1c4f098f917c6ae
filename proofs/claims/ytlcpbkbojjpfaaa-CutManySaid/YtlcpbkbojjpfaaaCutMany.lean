/-
  Statement CutMany: as many pieces come as the size goes into what was written, and what is left is the rest of that. Every size and every list of lengths, no condition.
-/
import Derived.Test.YtlcpbkbojjpfaaaCutHead
import Derived.Test.YtlcpbkbojjpfaaaNums
import Derived.ProofKit
import Derived.ChangeOld
namespace Go.Proofs.Ytlcpbkbojjpfaaa
open Go.ChangeShapes Go.WideShapes Go.ChangeAt Go.RowKit
set_option linter.unusedSimpArgs false
set_option linter.unusedVariables false

/-- n zeros, as cells. -/
def zeroC (n : Nat) : Array Value := ((List.replicate n (0 : UInt8)).map byteV).toArray
theorem make_runC (n : Nat) (hn : n ≤ 140737488351232) (w : World) :
    (Instr.makeSlice 23 (.int .i64 (n : Nat)) (.int .i64 (n : Nat))).run Try.prog w = .ok (.slice (some ⟨w.heap.size, 0, none⟩) n n) (w.alloc (.cells (zeroC n) 5)) := by
  obtain ⟨i0, hi, hz0, hz1, hz2⟩ := info_parts infoU8
  have h := run_make (P := Try.prog) w 23 5 i0 (.int .u8 0) Try.underlying23 hi hz0 .i64 .i64 (n : Nat) (n : Nat) (by omega) (by omega) (by rw [hz2]; omega) (by omega)
  rw [hz1, Nat.mul_one, Int.toNat_natCast] at h
  rw [h]
  have : madeCells #[.int .u8 0] n = zeroC n := by
    apply Array.ext'
    rw [toList_madeCells_one]
    simp [zeroC, byteV]
  rw [← this]
  rfl
theorem div_more (a k P : Nat) (hP : 0 < P) : a / P + (a % P + k) / P = (a + k) / P := by
  conv => rhs; rw [← Nat.div_add_mod a P, Nat.add_assoc, Nat.mul_add_div hP]
theorem many_bound {a k i n a1 : Nat} (ha : a ≤ 3000 * i) (hi : i < n) (hn : (n : Int) ≤ 100) (hk : k < 3000) (h : a + k = a1) : a1 ≤ 300000 ∧ a1 ≤ 3000 * (i + 1) := by omega
theorem le_big {q a : Nat} (h : q ≤ a) (ha : a ≤ 300000) : q ≤ 1000000000000 := by omega
theorem tmod_nat (a P R : Nat) (h : a % P = R) : ((a : Nat) : Int).tmod (P : Int) = (R : Int) := by
  subst h
  rw [Int.tmod_eq_emod_of_nonneg (Int.natCast_nonneg a)]
  rfl
theorem mod_more (a k P : Nat) : (a % P + k) % P = (a + k) % P := by rw [Nat.mod_add_mod]

set_option maxRecDepth 100000 in
set_option maxHeartbeats 8000000 in
theorem cutMany_law (w : World) (s : Int) (hs : 0 ≤ s ∧ s < 65536) (A : Option Addr) (n c : Nat) (xs : List Nat) (hx : Nums w A n c xs) :
    Calls Try.prog 9 #[.int .u16 s, .slice A n c] w fun e w' => e = .returned (.bool true) ∧ Below w.heap.size w w' := by
  obtain ⟨S, rfl⟩ := Int.eq_ofNat_of_zero_le hs.1
  have HX := Lib.hid hx
  obtain ⟨P, hP⟩ : ∃ P, 1 + S % 4096 = P := ⟨_, rfl⟩
  have hPi : (1 : Int) + (S : Int) % 4096 = (P : Int) := by omega
  have HPB := Lib.hid (show 1 ≤ P ∧ P ≤ 4096 by omega)
  have KW : Hid (IntKind.i64.wrap (S : Int) = (S : Int)) := Lib.hid (IntWalk.i64_in _ (by omega))
  have KW2 : Hid (wrap64 (S : Int) = (S : Int)) := Lib.hid (IntWalk.wrap64_in _ (by omega))
  have kw := KW.out
  have kw2 := KW2.out
  have kp : IntKind.i64.wrap ((1 : Int) + (S : Int) % 4096) = (P : Int) := by rw [IntWalk.i64_in _ (by omega)]; exact hPi
  have kp2 : wrap64 ((1 : Int) + (S : Int) % 4096) = (P : Int) := by rw [IntWalk.wrap64_in _ (by omega)]; exact hPi
  clear hx hs hP
  go_enter Try.func9, Try.ntmps9
  go_wp2_with (fail)
  refine (cutHead_any w).mono ?_
  rintro e w0 ⟨rfl, hb0⟩
  have HG0 := Lib.hid hb0
  clear hb0
  go_wp2_with (fail)
  clear kw kw2 kp kp2 hPi
  refine (make_cut P w0 HPB.out).mono ?_
  rintro e w1 ⟨rfl, hc1, hg1⟩
  have H1 := Lib.hid (And.intro hc1 hg1)
  clear hc1 hg1
  by_cases hbig : (100 : Int) < (n : Int)
  · go_wp2_with (fail)
    go_ret
    exact ⟨rfl, Below.trans HG0.out (Below.mono H1.out.2 HG0.out.size)⟩
  go_wp2_with (fail)
  go_loopw [8, 9, 10] (fun va vm vi wr => ∃ (a Q i : Nat) (v : Value) (L : List UInt8), i ≤ n ∧ a ≤ 3000 * i ∧ va = .int .i64 (a : Nat) ∧ vm = .int .i64 (Q : Nat) ∧ vi = .int .i64 (i : Nat) ∧ Hid (Q = a / P) ∧ Hid (L.length = a % P) ∧ Hid (CutHas wr w0.heap.size w0.heap.size P a v L) ∧ Hid (Below w0.heap.size w0 wr)) (fun _ _ i _ => n - (intOf i).toNat)
  case atStart => exact ⟨0, 0, 0, _, [], Nat.zero_le _, Nat.le_refl _, rfl, rfl, rfl, Lib.hid (by simp), Lib.hid (by simp), Lib.hid H1.out.1, Lib.hid H1.out.2⟩
  case round =>
    obtain ⟨a, Q, i, v, L, hi, ha, rfl, rfl, rfl, HQ0, HL, HC, HB⟩ := hrel
    by_cases hlt : i < n
    · obtain ⟨ad, x, rfl, hcx, hgx, hxs, hblk⟩ := HX.out.get hlt
      have hcw : wr.cell? (ad.add i) = some (.int .u16 (x : Int)) := by
        rw [(Below.trans HG0.out (Below.mono HB.out HG0.out.size)).cell (by rw [add_block]; exact hblk)]
        exact hcx
      obtain ⟨k, hk⟩ : ∃ k, x % 3000 = k := ⟨_, rfl⟩
      have hk3 : k < 3000 := by omega
      have hki : (x : Int) % 3000 = (k : Int) := by omega
      have k1 : IntKind.i64.wrap (k : Int) = (k : Int) := IntWalk.i64_in _ (by omega)
      have k2 : wrap64 (k : Int) = (k : Int) := IntWalk.wrap64_in _ (by omega)
      have hmk := make_runC k (by omega) wr
      have i0 : (0 : Int) ≤ (i : Int) := by omega
      have i1 : (i : Int) < (n : Int) := by omega
      have ii : IntKind.i64.wrap ((i : Int) + 1) = (i : Int) + 1 := IntWalk.i64_in _ (by omega)
      clear hgx hxs hblk hk hcx
      go_wp2_with (fail)
      rw [hki]
      go_wp2_with (fail)
      have ga := grows_alloc wr (.cells (zeroC k) 5)
      refine (write_low w0.heap.size w0.heap.size P a v L _ k k (List.replicate k 0) _ (HC.out.grow ga) (Nat.le_refl _) ((Whole.made wr 5 (zeroC k)).sl _ rfl (by simp)) (fun _ ad e => apart_new HC.out (Nat.le_refl wr.heap.size) ad e) HPB.out.2 (by omega) (by omega) (Nat.le_trans HB.out.size ga.size)).mono ?_
      rintro e w2 ⟨A2, m2, c2, v2, rfl, hl2, hc2, hb2, hs2, hv2⟩
      have hm2 := (hl2 w2 (Keeps.grows (Grows.refl _))).len
      rw [pieces_len, List.length_append, List.length_replicate, HL.out] at hm2
      have hr2 : (restB P (L ++ List.replicate k 0)).length = (a + k) % P := by rw [rest_len (by have := HPB.out; omega), List.length_append, List.length_replicate, HL.out, mod_more]
      have hq2 : Q + m2 = (a + k) / P := by rw [← hm2, HQ0.out, div_more _ _ _ (by have := HPB.out; omega)]
      have HB2 := Lib.hid (Below.trans HB.out (Below.trans (Below.mono ga HB.out.size) hb2))
      obtain ⟨a1, ha1⟩ : ∃ a1, a + k = a1 := ⟨_, rfl⟩
      obtain ⟨Q1, hQ1⟩ : ∃ Q1, Q + m2 = Q1 := ⟨_, rfl⟩
      obtain ⟨R1, hR1⟩ : ∃ R1, a1 % P = R1 := ⟨_, rfl⟩
      rw [hQ1, ha1] at hq2
      rw [ha1] at hr2 hc2
      rw [hR1] at hr2
      have hQle : Q1 ≤ a1 := by rw [hq2]; exact Nat.div_le_self _ _
      obtain ⟨hal, hal2⟩ := many_bound ha hlt hbig hk3 ha1
      obtain ⟨kq1, kq2⟩ := fit_sum Q m2 Q1 hQ1 (le_big hQle hal)
      obtain ⟨ka1, ka2⟩ := fit_sum a k a1 ha1 (le_big (Nat.le_refl _) hal)
      have hRle : R1 ≤ a1 := by rw [← hR1]; exact Nat.mod_le _ _
      have HWR := Lib.hid (And.intro (fit_one Q1 (le_big hQle hal)) (fit_one R1 (le_big hRle hal)))
      have HCT := Lib.hid (And.intro hc2 hr2)
      have HQ : Hid (((a1 : Nat) : Int) / (P : Int) = (Q1 : Int) ∧ ((a1 : Nat) : Int).tmod (P : Int) = (R1 : Int) ∧ ¬ P = 0) := Lib.hid ⟨by rw [hq2, Int.natCast_ediv], tmod_nat _ _ _ hR1, by have := HPB.out; omega⟩
      have HN := Lib.hid (And.intro hq2 (And.intro hR1 hal2))
      clear hl2 hc2 hb2 hs2 hm2 hr2 hq2 ga ha1 hQ1 hR1 hQle hmk
      go_wp2_with (fail)
      refine q_region mixed (by kernel_rfl) ?_
      refine q_op (.int .i64 (Q1 : Nat)) (by rfl) ?_ ?_
      · intro w' hC; clear hC; go_simp
      simp only [Act.put, List.setIfInBounds_toArray, List.set_cons_zero, List.set_cons_succ]
      refine q_op (.int .i64 (a1 : Nat)) (by rfl) ?_ ?_
      · intro w' hC; clear hC; go_simp
      simp only [Act.put, List.setIfInBounds_toArray, List.set_cons_zero, List.set_cons_succ]
      refine q_op (.int .i64 (P : Nat)) (by rfl) ?_ ?_
      · intro w' hC; clear hC; go_simp
      simp only [Act.put, List.setIfInBounds_toArray, List.set_cons_zero, List.set_cons_succ]
      refine q_op (.int .i64 (Q1 : Nat)) (by rfl) ?_ ?_
      · intro w' hC; have hq := HQ.out.1; have hp := HQ.out.2.2; obtain ⟨kw1, kw2⟩ := HWR.out.1; clear hC; go_simp
      simp only [Act.put, List.setIfInBounds_toArray, List.set_cons_zero, List.set_cons_succ]
      refine q_op (.bool false) (by rfl) ?_ ?_
      · intro w' hC; clear hC; go_simp
      simp only [Act.put, List.setIfInBounds_toArray, List.set_cons_zero, List.set_cons_succ]
      refine q_op (.bool false) (by rfl) ?_ ?_
      · intro w' hC; clear hC; go_simp
      simp only [Act.put, List.setIfInBounds_toArray, List.set_cons_zero, List.set_cons_succ]
      refine q_op (.pointer (some ⟨w0.heap.size, 0, none⟩)) (by rfl) ?_ ?_
      · intro w' hC; clear hC; go_simp
      simp only [Act.put, List.setIfInBounds_toArray, List.set_cons_zero, List.set_cons_succ]
      refine q_call 40 #[.pointer (some ⟨w0.heap.size, 0, none⟩)] (.int .i64 (R1 : Nat)) (by rfl) (by intro w' hC; clear hC; go_simp) ?_ ?_
      · intro w' hC; have h := left_cut w' (HCT.out.1.grow hC); rw [HCT.out.2] at h; exact h.mono fun e w'' ⟨he, hw⟩ => ⟨he, hw ▸ hC⟩
      simp only [Act.put, List.setIfInBounds_toArray, List.set_cons_zero, List.set_cons_succ]
      refine q_op (.int .i64 (a1 : Nat)) (by rfl) ?_ ?_
      · intro w' hC; clear hC; go_simp
      simp only [Act.put, List.setIfInBounds_toArray, List.set_cons_zero, List.set_cons_succ]
      refine q_op (.int .i64 (P : Nat)) (by rfl) ?_ ?_
      · intro w' hC; clear hC; go_simp
      simp only [Act.put, List.setIfInBounds_toArray, List.set_cons_zero, List.set_cons_succ]
      refine q_op (.int .i64 (R1 : Nat)) (by rfl) ?_ ?_
      · intro w' hC; have hq := HQ.out.2.1; have hp := HQ.out.2.2; obtain ⟨kw1, kw2⟩ := HWR.out.2; clear hC; go_simp
      simp only [Act.put, List.setIfInBounds_toArray, List.set_cons_zero, List.set_cons_succ]
      refine q_op (.bool false) (by rfl) ?_ ?_
      · intro w' hC; clear hC; go_simp
      simp only [Act.put, List.setIfInBounds_toArray, List.set_cons_zero, List.set_cons_succ]
      refine q_op (.bool false) (by rfl) ?_ ?_
      · intro w' hC; clear hC; go_simp
      simp only [Act.put, List.setIfInBounds_toArray, List.set_cons_zero, List.set_cons_succ]
      refine q_op (.bool false) (by rfl) ?_ ?_
      · intro w' hC; clear hC; go_simp
      simp only [Act.put, List.setIfInBounds_toArray, List.set_cons_zero, List.set_cons_succ]
      refine q_op (.pointer (some ⟨w0.heap.size, 0, none⟩)) (by rfl) ?_ ?_
      · intro w' hC; clear hC; go_simp
      simp only [Act.put, List.setIfInBounds_toArray, List.set_cons_zero, List.set_cons_succ]
      refine q_call 38 #[.pointer (some ⟨w0.heap.size, 0, none⟩)] (.int .i64 (a1 : Nat)) (by rfl) (by intro w' hC; clear hC; go_simp) ?_ ?_
      · intro w' hC; exact (size_cut w' (HCT.out.1.grow hC)).mono fun e w'' ⟨he, hw⟩ => ⟨he, hw ▸ hC⟩
      simp only [Act.put, List.setIfInBounds_toArray, List.set_cons_zero, List.set_cons_succ]
      refine q_op (.int .i64 (a1 : Nat)) (by rfl) ?_ ?_
      · intro w' hC; clear hC; go_simp
      simp only [Act.put, List.setIfInBounds_toArray, List.set_cons_zero, List.set_cons_succ]
      refine q_op (.bool false) (by rfl) ?_ ?_
      · intro w' hC; clear hC; go_simp
      simp only [Act.put, List.setIfInBounds_toArray, List.set_cons_zero, List.set_cons_succ]
      refine q_op (.bool false) (by rfl) ?_ ?_
      · intro w' hC; clear hC; go_simp
      simp only [Act.put, List.setIfInBounds_toArray, List.set_cons_zero, List.set_cons_succ]
      refine wpQuiet_nil ?_
      intro w3 hC
      have HCw := Lib.hid hC
      clear hC
      go_wp2_with (fail)
      go_roundw
      case rel => exact ⟨a1, Q1, i + 1, v2, _, by omega, HN.out.2.2, rfl, rfl, by go_num, Lib.hid HN.out.1, Lib.hid (by rw [HCT.out.2, HN.out.2.1]), Lib.hid (HCT.out.1.grow HCw.out), Lib.hid (Below.trans HB2.out (Below.mono HCw.out HB2.out.size))⟩
      case measure => simp [intOf]; omega
    · obtain rfl : i = n := by omega
      go_wp2_with (fail)
      go_ret
      exact ⟨rfl, Below.trans HG0.out (Below.mono HB.out HG0.out.size)⟩

set_option maxRecDepth 100000 in
theorem cutMany_lifted (os : Os) (started : os.Started) (H : Type) (enc : TypeId × Value → H) :
    ReturnsInHanded {} Try.checked os 9 .any (Rows.cutManySpec.pre6 enc Try.prog Try.f9 Rows.cutManyRow.domain false) (Rows.cutManySpec.post enc Try.prog Try.f9 false true false false) := by
  refine lift_law (C := Try.checked) H enc own started (by kernel_rfl) Try.func9
    (ChangeSpec.witness6 (enc := enc) (C := Try.checked) false ⟨#[], #[.int .u16 0, .slice none 0 0], []⟩ 16 (by kernel_rfl) (by kernel_rfl) (by kernel_rfl) (by kernel_rfl))
    laidOut (of_readable (by kernel_rfl)) rfl Try.underlying4 rfl (fun ds hd => ?_) (fun W base args ds p hval hA hsz => ?_)
  · match ds, hd with
    | [d1, d2], _ => rfl
  · rw [Try.params9] at hA hval hsz
    obtain ⟨v0, vs0, d0, ds0, p0, q0, hargs, rfl, rfl, h0, r0⟩ := trodAll_cons hA
    obtain ⟨v1, vs1, d1, ds1, p1, q1, rfl, rfl, rfl, h1, r1⟩ := trodAll_cons r0
    obtain ⟨rfl, rfl, rfl⟩ := trodAll_nil r1
    obtain rfl : args = #[v0, v1] := by cases args; simp_all
    obtain ⟨a0, rfl, _, _, w0⟩ := open_int Try.underlying56 (hval 0 56 v0 rfl rfl) h0
    have b0 := bounds_u16 w0
    obtain ⟨A1, n1, c1, xs1, rfl, hx1⟩ := open_nums Try.underlying60 Try.underlying56 (by kernel_rfl) (hval 1 60 v1 rfl rfl) h1
    exact cutMany_law W a0 (by omega) A1 n1 c1 xs1 hx1

theorem cutMany_over : Rows.cutManyRow.holds Try.pinned (OpenSpec.ofChange Rows.cutManySpec) :=
  OpenClaim.holds_of_wide 9 Try.f9 rfl rfl rfl rfl rfl rfl rfl ⟨rfl, rfl, rfl, rfl, rfl⟩ rfl rfl rfl rfl rfl (by kernel_rfl) Try.func9 (by kernel_rfl)
    (of_decide_eq_true (by kernel_rfl)) (by unfold Func.isWrapper; first | (rw [if_pos (by decide +kernel)]; kernel_rfl) | (rw [if_neg (by decide +kernel)]; exact ⟨rfl, rfl⟩))
    (fun os started H enc _ => cutMany_lifted os started H enc)
theorem cutMany_holds : Rows.CutManySaid := cutMany_over
end Go.Proofs.Ytlcpbkbojjpfaaa
