/-
  Texts that the statements' proofs lean on, one behind the other.
-/
import Derived.Test.YtdkpbphgaenlnaaGreatMN
import Derived.Test.YtdkpbphgaenlnaaGreatMD
import Derived.Test.YtdkpbphgaenlnaaGreatRcPlain
import Derived.Test.YtdkpbphgaenlnaaGreatFHead
import Derived.Test.YtdkpbphgaenlnaaGreatFactsTail
import Derived.Test.YtdkpbphgaenlnaaGreatWalkBits
import Derived.Test.YtdkpbphgaenlnaaGreatMM
import Derived.Test.YtdkpbphgaenlnaaGreatMZ
import Derived.Test.YtdkpbphgaenlnaaGreatMP
/-
  The walk of the answer's Right of a manifest.
-/
namespace Go.Proofs.YtdkpbphgaenlnaaGreat
open Go.RowKit
set_option linter.unusedSimpArgs false
set_option linter.unusedVariables false

set_option maxRecDepth 100000 in
set_option maxHeartbeats 4000000 in
theorem mrefRight_any (w : World) (A : Option Addr) (n c : Nat) (m : Mn) (h : MnIn w A n c m) (hbig : n ≤ 1000000000) :
    Calls Tryz.prog 50 #[.agg #[.slice A n c, .int .i64 m.next]] w fun e w' => e = .returned (.bool (rightM m)) ∧ Grows w w' := by
  have hwm := Whole.made w 31 #[.slice A n c, .int .i64 m.next]
  have hgr := grows_alloc w (.cells #[.slice A n c, .int .i64 m.next] 31)
  obtain ⟨w1, hw1⟩ : ∃ x, w.alloc (.cells #[.slice A n c, .int .i64 m.next] 31) = x := ⟨_, rfl⟩
  have c0 := hwm.cell 0
  have c1 := hwm.cell 1
  simp only [List.getElem?_toArray, List.getElem?_cons_zero, List.getElem?_cons_succ] at c0 c1
  rw [hw1] at c0 c1 hgr
  have HI := Lib.hid (h.segs.grow hgr)
  have HL := Lib.hid (show m.segs.length = n from h.segs.len)
  have HG := Lib.hid hgr
  obtain ⟨b, hbb⟩ : ∃ b, rightM m = b := ⟨_, rfl⟩
  obtain ⟨nx, hnx⟩ : ∃ nx, m.next = nx := ⟨_, rfl⟩
  rw [hbb]
  rw [hnx] at c1 hw1 ⊢
  have HB := Lib.hid (And.intro hbb hnx)
  clear hwm h hgr hbb hnx
  go_enter Tryz.func50, Tryz.ntmps50
  go_wp2_with (fail)
  go_loop [3, 4] (fun v i => ∃ (j : Nat) (z : Int), j ≤ n ∧ i = .int .i64 (j : Nat) ∧ v = .int .i64 z ∧ Hid (upTo (-1) (m.segs.take j) = some z)) (fun _ i => n - (intOf i).toNat)
  case atStart => exact ⟨0, -1, by omega, rfl, rfl, Lib.hid rfl⟩
  case round =>
    obtain ⟨j, z, hj, rfl, rfl, HU⟩ := hrel
    by_cases hlt : j < n
    · have hlt' : (j : Int) < (n : Int) := by omega
      have hj0 : (0 : Int) ≤ (j : Int) := by omega
      have e5 : IntKind.i64.wrap ((j : Int) + 1) = (j : Int) + 1 := IntWalk.i64_in _ ⟨by omega, by omega⟩
      obtain ⟨ad, x, rfl, hc, hx, _⟩ := HI.out.get hlt
      have hnx := upTo_next hx HU.out
      by_cases hxz : x ≤ z
      · rw [if_pos hxz] at hnx
        have hbf : b = false := by rw [← HB.out.1]; exact rightM_none (upTo_ends hnx)
        subst hbf
        clear hnx hx
        go_wp2_with (fail)
        go_ret
        exact ⟨rfl, HG.out⟩
      rw [if_neg hxz] at hnx
      by_cases hxm : x > 99999999
      · have hbf : b = false := by rw [← HB.out.1]; exact rightM_past (List.mem_of_getElem? hx) hxm
        subst hbf
        clear hnx hx
        go_wp2_with (fail)
        go_ret
        exact ⟨rfl, HG.out⟩
      · have HN := Lib.hid hnx
        clear hnx hx
        go_wp2_with (fail)
        go_round
        case rel => exact ⟨j + 1, x, by omega, by first | rfl | go_num, rfl, HN⟩
        case measure => simp [intOf]; omega
    · obtain rfl : j = n := by omega
      have hlt' : ¬ ((j : Int) < (j : Int)) := by omega
      have hu := HU.out
      rw [List.take_of_length_le (by rw [HL.out]; exact Nat.le_refl _)] at hu
      have HZ := Lib.hid (show -1 ≤ z from (upTo_ge _ _ _ hu).1)
      by_cases hn : j ≤ 1000
      rotate_left 1
      · have hn' : ¬ ((j : Int) ≤ 1000) := by omega
        have hbf : b = false := by rw [← HB.out.1]; exact rightM_long (by rw [HL.out]; exact hn)
        subst hbf
        clear hu
        go_wp2_with (fail)
        go_ret
        exact ⟨rfl, HG.out⟩
      have hn' : (j : Int) ≤ 1000 := by omega
      have hr := rightM_some (by rw [HL.out]; exact hn) hu
      rw [HB.out.1, HB.out.2] at hr
      have HR := Lib.hid hr
      clear hu hr
      by_cases hzn : z < nx
      rotate_left 1
      · have hzn' : ¬ (nx > z) := hzn
        have hbf : b = false := by rw [HR.out]; simp [hzn]
        subst hbf
        go_wp2_with (fail)
        go_ret
        exact ⟨rfl, HG.out⟩
      have hzn' : nx > z := hzn
      have hz0 : nx ≥ 0 := by have := HZ.out; omega
      by_cases hnm : nx ≤ 99999999
      · have hbf : b = true := by rw [HR.out]; simp [hzn, hnm]
        subst hbf
        go_wp2_with (fail)
        go_ret
        exact ⟨rfl, HG.out⟩
      · have hbf : b = false := by rw [HR.out]; simp [hnm]
        subst hbf
        go_wp2_with (fail)
        go_ret
        exact ⟨rfl, HG.out⟩
end Go.Proofs.YtdkpbphgaenlnaaGreat

/-
  The walks of the answer's four and unfour.
-/
namespace Go.Proofs.YtdkpbphgaenlnaaGreat
open Go.RowKit
set_option linter.unusedSimpArgs false
set_option linter.unusedVariables false

theorem numB4 (x : Int) : ∃ a b c d : UInt8, numB x 4 = [a, b, c, d] ∧ x / 16777216 % 256 = (a.toNat : Int) ∧ x / 65536 % 256 = (b.toNat : Int) ∧ x / 256 % 256 = (c.toNat : Int) ∧ x % 256 = (d.toNat : Int) := by
  refine ⟨byteI (x / 256 ^ 3), byteI (x / 256 ^ 2), byteI (x / 256 ^ 1), byteI (x / 256 ^ 0), rfl, ?_, ?_, ?_, ?_⟩ <;> rw [byteI_nat]
  · rw [show (256 : Int) ^ 3 = 16777216 by decide]
  · rw [show (256 : Int) ^ 2 = 65536 by decide]
  · rw [show (256 : Int) ^ 1 = 256 by decide]
  · rw [show (256 : Int) ^ 0 = 1 by decide, Int.ediv_one]
set_option maxRecDepth 100000 in
set_option maxHeartbeats 4000000 in
theorem refFour_own (base : Nat) (A0 : Option Addr) (n0 c0 : Nat) (xs : List UInt8) (x : Int) (w : World) (ho : w.ownsRow base 5 1 (.slice A0 n0 c0) n0 (xs.map byteV)) (hb : base ≤ w.heap.size) (hn : n0 ≤ 1000000) :
    Calls Tryz.prog 108 #[.slice A0 n0 c0, .int .i64 x] w fun e w' => ∃ A' c', e = .returned (.slice A' (n0 + 4) c') ∧ w'.ownsRow base 5 1 (.slice A' (n0 + 4) c') (n0 + 4) ((xs ++ numB x 4).map byteV) ∧ Below base w w' ∧ Stay w w' := by
  obtain ⟨a, b, c, d, hab, ha, hbb, hc, hd⟩ := numB4 x
  rw [hab]
  have hm := Whole.made w 5 #[.int .u8 (a.toNat : Int), .int .u8 (b.toNat : Int), .int .u8 (c.toNat : Int), .int .u8 (d.toNat : Int)]
  have HM := Lib.hid (Whole.sl hm [a, b, c, d] rfl (n := 4) rfl)
  have HG := Lib.hid (owned_grow ho (grows_alloc w (.cells #[.int .u8 (a.toNat : Int), .int .u8 (b.toNat : Int), .int .u8 (c.toNat : Int), .int .u8 (d.toNat : Int)] 5)))
  have HB := Lib.hid hb
  have e24 : x / 2 ^ 24 % 256 = (a.toNat : Int) := ha
  have e16 : x / 2 ^ 16 % 256 = (b.toNat : Int) := hbb
  have e8 : x / 2 ^ 8 % 256 = (c.toNat : Int) := hc
  clear hab hm ho
  go_enter Tryz.func108, Tryz.ntmps108
  go_wp2_with (at_builtin
               refine list_app isSl_bytes isSl_bytes rfl (.tmp 5) (.tmp 17) rfl (base := base) rfl HG.out (A := some ⟨w.heap.size, 0, none⟩) (m := 4) (c := 4) rfl HM.out (n0 + 4) rfl (by omega) (by have := HB.out; simp; omega) ?_
               intro A2 c2 w2 ho2 hb2 hs2
               have HO2 := Lib.hid ho2
               have HB2 := Lib.hid (And.intro (Below.trans ((Below.refl base w).alloc HB.out _) hb2) (Stay.trans (Stay.grow (grows_alloc _ _)) hs2))
               clear ho2 hb2 hs2)
  go_ret
  exact ⟨A2, c2, rfl, HO2.out, HB2.out⟩

set_option maxRecDepth 100000 in
set_option maxHeartbeats 4000000 in
theorem refUnfour_any (w : World) (A : Option Addr) (c : Nat) (bs : List UInt8) (h : Sl w A 4 c bs) :
    Calls Tryz.prog 117 #[.slice A 4 c] w fun e w' => e = .returned (.int .i64 (valB bs)) ∧ Grows w w' := by
  obtain ⟨b0, b1, b2, b3, rfl⟩ : ∃ b0 b1 b2 b3 : UInt8, bs = [b0, b1, b2, b3] := by
    have hl := h.len
    match bs, hl with
    | [b0, b1, b2, b3], _ => exact ⟨b0, b1, b2, b3, rfl⟩
    | [], hl => simp at hl
    | [_], hl => simp at hl
    | [_, _], hl => simp at hl
    | [_, _, _], hl => simp at hl
    | _ :: _ :: _ :: _ :: _ :: _, hl => simp at hl
  obtain ⟨ad, rfl, _, _⟩ := h.bytes.spot (k := 0) (by omega)
  have HC := Lib.hid (fun w' (hw : Grows w w') => (first_cells (h.grow hw)).2)
  have HLB := Lib.hid (And.intro (show (0 : Int) < 4 by decide) (show (3 : Int) < 4 by decide))
  obtain ⟨V, hV⟩ : ∃ V, valB [b0, b1, b2, b3] = V := ⟨_, rfl⟩
  have p0 := b0.toNat_lt
  have p1 := b1.toNat_lt
  have p2 := b2.toNat_lt
  have p3 := b3.toNat_lt
  have hV2 : 16777216 * (b0.toNat : Int) + 65536 * (b1.toNat : Int) + 256 * (b2.toNat : Int) + (b3.toNat : Int) = V := by
    rw [← hV]
    unfold valB
    simp only [List.foldl_cons, List.foldl_nil]
    omega
  rw [hV]
  generalize b0.toNat = m0 at *
  generalize b1.toNat = m1 at *
  generalize b2.toNat = m2 at *
  generalize b3.toNat = m3 at *
  have x0 : IntKind.i64.wrap (m0 : Int) = (m0 : Int) := IntWalk.i64_in _ (by omega)
  have x1 : IntKind.i64.wrap (m1 : Int) = (m1 : Int) := IntWalk.i64_in _ (by omega)
  have x2 : IntKind.i64.wrap (m2 : Int) = (m2 : Int) := IntWalk.i64_in _ (by omega)
  have x3 : IntKind.i64.wrap (m3 : Int) = (m3 : Int) := IntWalk.i64_in _ (by omega)
  have y0 : IntKind.i64.wrap (16777216 * (m0 : Int)) = 16777216 * (m0 : Int) := IntWalk.i64_in _ (by omega)
  have y1 : IntKind.i64.wrap (65536 * (m1 : Int)) = 65536 * (m1 : Int) := IntWalk.i64_in _ (by omega)
  have y2 : IntKind.i64.wrap (256 * (m2 : Int)) = 256 * (m2 : Int) := IntWalk.i64_in _ (by omega)
  have s1 : IntKind.i64.wrap (16777216 * (m0 : Int) + 65536 * (m1 : Int)) = 16777216 * (m0 : Int) + 65536 * (m1 : Int) := IntWalk.i64_in _ (by omega)
  have s2 : IntKind.i64.wrap (16777216 * (m0 : Int) + 65536 * (m1 : Int) + 256 * (m2 : Int)) = 16777216 * (m0 : Int) + 65536 * (m1 : Int) + 256 * (m2 : Int) := IntWalk.i64_in _ (by omega)
  have s3 : IntKind.i64.wrap (16777216 * (m0 : Int) + 65536 * (m1 : Int) + 256 * (m2 : Int) + (m3 : Int)) = V := (IntWalk.i64_in _ (by omega)).trans hV2
  clear h hV hV2 p0 p1 p2 p3
  go_enter Tryz.func117, Tryz.ntmps117
  go_wp2_with (fail)
  refine wp_region_facts_tail (E := Grows) 22 [valFact (.slice (some ad) 4 c), valFact (.pointer (some ad)), valFact (.int .u8 (m0 : Nat)), valFact (.int .i64 (m0 : Nat)), valFact (.int .i64 (16777216 * (m0 : Int))), valFact (.slice (some ad) 4 c), valFact (.pointer (some { block := ad.block, off := ad.off + 1 })), valFact (.int .u8 (m1 : Nat)), valFact (.int .i64 (m1 : Nat)), valFact (.int .i64 (65536 * (m1 : Int))), valFact (.int .i64 (16777216 * (m0 : Int) + 65536 * (m1 : Int))), valFact (.slice (some ad) 4 c), valFact (.pointer (some { block := ad.block, off := ad.off + 2 })), valFact (.int .u8 (m2 : Nat)), valFact (.int .i64 (m2 : Nat)), valFact (.int .i64 (256 * (m2 : Int))), valFact (.int .i64 (16777216 * (m0 : Int) + 65536 * (m1 : Int) + 256 * (m2 : Int))), valFact (.slice (some ad) 4 c), valFact (.pointer (some { block := ad.block, off := ad.off + 3 })), valFact (.int .u8 (m3 : Nat)), valFact (.int .i64 (m3 : Nat)), valFact (.int .i64 V)] mixed (by kernel_rfl) (fun _ _ _ => Grows.trans) (grows_drew _) ?_
  simp only [List.take_succ_cons, List.take_zero, List.drop_succ_cons, List.drop_zero]
  refine f_val (.slice (some ad) 4 c) (by rfl) ?_ ?_
  · intro w' hC; clear hC; first | (go_simp; done)
  simp only [Act.put, List.setIfInBounds_toArray, List.set_cons_zero, List.set_cons_succ]
  refine f_val (.pointer (some ad)) (by rfl) ?_ ?_
  · intro w' hC; obtain ⟨l0, l1⟩ := HLB.out; clear hC; first | (go_simp; done)
  simp only [Act.put, List.setIfInBounds_toArray, List.set_cons_zero, List.set_cons_succ]
  refine f_val (.int .u8 (m0 : Nat)) (by rfl) ?_ ?_
  · intro w' hC; obtain ⟨z0, z1, z2, z3⟩ := HC.out w' hC; clear hC; first | (go_simp; done)
  simp only [Act.put, List.setIfInBounds_toArray, List.set_cons_zero, List.set_cons_succ]
  refine f_val (.int .i64 (m0 : Nat)) (by rfl) ?_ ?_
  · intro w' hC; clear hC; first | (go_simp; done)
  simp only [Act.put, List.setIfInBounds_toArray, List.set_cons_zero, List.set_cons_succ]
  refine f_val (.int .i64 (16777216 * (m0 : Int))) (by rfl) ?_ ?_
  · intro w' hC; clear hC; first | (go_simp; done)
  simp only [Act.put, List.setIfInBounds_toArray, List.set_cons_zero, List.set_cons_succ]
  refine f_val (.slice (some ad) 4 c) (by rfl) ?_ ?_
  · intro w' hC; clear hC; first | (go_simp; done)
  simp only [Act.put, List.setIfInBounds_toArray, List.set_cons_zero, List.set_cons_succ]
  refine f_val (.pointer (some { block := ad.block, off := ad.off + 1 })) (by rfl) ?_ ?_
  · intro w' hC; obtain ⟨l0, l1⟩ := HLB.out; clear hC; first | (go_simp; done)
  simp only [Act.put, List.setIfInBounds_toArray, List.set_cons_zero, List.set_cons_succ]
  refine f_val (.int .u8 (m1 : Nat)) (by rfl) ?_ ?_
  · intro w' hC; obtain ⟨z0, z1, z2, z3⟩ := HC.out w' hC; clear hC; first | (go_simp; done)
  simp only [Act.put, List.setIfInBounds_toArray, List.set_cons_zero, List.set_cons_succ]
  refine f_val (.int .i64 (m1 : Nat)) (by rfl) ?_ ?_
  · intro w' hC; clear hC; first | (go_simp; done)
  simp only [Act.put, List.setIfInBounds_toArray, List.set_cons_zero, List.set_cons_succ]
  refine f_val (.int .i64 (65536 * (m1 : Int))) (by rfl) ?_ ?_
  · intro w' hC; clear hC; first | (go_simp; done)
  simp only [Act.put, List.setIfInBounds_toArray, List.set_cons_zero, List.set_cons_succ]
  refine f_val (.int .i64 (16777216 * (m0 : Int) + 65536 * (m1 : Int))) (by rfl) ?_ ?_
  · intro w' hC; clear hC; first | (go_simp; done)
  simp only [Act.put, List.setIfInBounds_toArray, List.set_cons_zero, List.set_cons_succ]
  refine f_val (.slice (some ad) 4 c) (by rfl) ?_ ?_
  · intro w' hC; clear hC; first | (go_simp; done)
  simp only [Act.put, List.setIfInBounds_toArray, List.set_cons_zero, List.set_cons_succ]
  refine f_val (.pointer (some { block := ad.block, off := ad.off + 2 })) (by rfl) ?_ ?_
  · intro w' hC; obtain ⟨l0, l1⟩ := HLB.out; clear hC; first | (go_simp; done)
  simp only [Act.put, List.setIfInBounds_toArray, List.set_cons_zero, List.set_cons_succ]
  refine f_val (.int .u8 (m2 : Nat)) (by rfl) ?_ ?_
  · intro w' hC; obtain ⟨z0, z1, z2, z3⟩ := HC.out w' hC; clear hC; first | (go_simp; done)
  simp only [Act.put, List.setIfInBounds_toArray, List.set_cons_zero, List.set_cons_succ]
  refine f_val (.int .i64 (m2 : Nat)) (by rfl) ?_ ?_
  · intro w' hC; clear hC; first | (go_simp; done)
  simp only [Act.put, List.setIfInBounds_toArray, List.set_cons_zero, List.set_cons_succ]
  refine f_val (.int .i64 (256 * (m2 : Int))) (by rfl) ?_ ?_
  · intro w' hC; clear hC; first | (go_simp; done)
  simp only [Act.put, List.setIfInBounds_toArray, List.set_cons_zero, List.set_cons_succ]
  refine f_val (.int .i64 (16777216 * (m0 : Int) + 65536 * (m1 : Int) + 256 * (m2 : Int))) (by rfl) ?_ ?_
  · intro w' hC; clear hC; first | (go_simp; done)
  simp only [Act.put, List.setIfInBounds_toArray, List.set_cons_zero, List.set_cons_succ]
  refine f_val (.slice (some ad) 4 c) (by rfl) ?_ ?_
  · intro w' hC; clear hC; first | (go_simp; done)
  simp only [Act.put, List.setIfInBounds_toArray, List.set_cons_zero, List.set_cons_succ]
  refine f_val (.pointer (some { block := ad.block, off := ad.off + 3 })) (by rfl) ?_ ?_
  · intro w' hC; obtain ⟨l0, l1⟩ := HLB.out; clear hC; first | (go_simp; done)
  simp only [Act.put, List.setIfInBounds_toArray, List.set_cons_zero, List.set_cons_succ]
  refine f_val (.int .u8 (m3 : Nat)) (by rfl) ?_ ?_
  · intro w' hC; obtain ⟨z0, z1, z2, z3⟩ := HC.out w' hC; clear hC; first | (go_simp; done)
  simp only [Act.put, List.setIfInBounds_toArray, List.set_cons_zero, List.set_cons_succ]
  refine f_val (.int .i64 (m3 : Nat)) (by rfl) ?_ ?_
  · intro w' hC; clear hC; first | (go_simp; done)
  simp only [Act.put, List.setIfInBounds_toArray, List.set_cons_zero, List.set_cons_succ]
  refine f_val (.int .i64 V) (by rfl) ?_ ?_
  · intro w' hC; clear hC; first | (go_simp; done)
  simp only [Act.put, List.setIfInBounds_toArray, List.set_cons_zero, List.set_cons_succ]
  refine wpF_end ?_
  intro w1 hC hks
  have HCw1 := Lib.hid hC
  clear hC hks
  go_wp2_with (fail)
  go_ret
  exact ⟨rfl, HCw1.out⟩
end Go.Proofs.YtdkpbphgaenlnaaGreat

/-
  The walk of the answer's Put of a manifest.
-/
namespace Go.Proofs.YtdkpbphgaenlnaaGreat
open Go.RowKit
set_option linter.unusedSimpArgs false
set_option linter.unusedVariables false

theorem nums_nextR {xs : List Int} {j : Nat} {x : Int} (hx : xs[j]? = some x) : numsB (xs.take (j + 1)) = numsB (xs.take j) ++ numB x 4 := by
  obtain ⟨h1, h2⟩ := List.getElem?_eq_some_iff.1 hx
  rw [List.take_succ_eq_append_getElem h1, numsB_snoc, h2]
theorem numB2 (n : Nat) : ∃ a b : UInt8, numB (n : Int) 2 = [a, b] ∧ (n : Int) / 256 % 256 = (a.toNat : Int) ∧ (n : Int) % 256 = (b.toNat : Int) := by
  refine ⟨byteI ((n : Int) / 256 ^ 1), byteI ((n : Int) / 256 ^ 0), rfl, ?_, ?_⟩ <;> rw [byteI_nat]
  · rw [show (256 : Int) ^ 1 = 256 by decide]
  · rw [show (256 : Int) ^ 0 = 1 by decide, Int.ediv_one]
set_option maxRecDepth 100000 in
set_option maxHeartbeats 4000000 in
theorem mrefPut_any (w : World) (A : Option Addr) (n c : Nat) (m : Mn) (h : MnIn w A n c m) (hbig : n ≤ 1000000000) :
    Calls Tryz.prog 54 #[.agg #[.slice A n c, .int .i64 m.next]] w fun e w' => ∃ A' k c', e = .returned (.slice A' k c') ∧ w'.ownsRow w.heap.size 5 1 (.slice A' k c') k ((putM m).map byteV) ∧ Grows w w' := by
  have hwm := Whole.made w 31 #[.slice A n c, .int .i64 m.next]
  have hgr := grows_alloc w (.cells #[.slice A n c, .int .i64 m.next] 31)
  obtain ⟨w1, hw1⟩ : ∃ x, w.alloc (.cells #[.slice A n c, .int .i64 m.next] 31) = x := ⟨_, rfl⟩
  rw [hw1] at hwm hgr
  have c0 := hwm.cell 0
  have c1 := hwm.cell 1
  simp only [List.getElem?_toArray, List.getElem?_cons_zero, List.getElem?_cons_succ] at c0 c1
  have HWM := Lib.hid hwm
  have HI := Lib.hid (h.grow hgr)
  have HL := Lib.hid (show m.segs.length = n from h.segs.len)
  have HG := Lib.hid hgr
  have HR := Lib.hid (mrefRight_any w1 A n c m HI.out hbig)
  obtain ⟨b, hbb⟩ : ∃ b, rightM m = b := ⟨_, rfl⟩
  obtain ⟨nx, hnx⟩ : ∃ nx, m.next = nx := ⟨_, rfl⟩
  rw [hbb, hnx] at HR
  rw [hnx] at c1 hw1 HWM
  rw [hnx]
  have HB := Lib.hid (And.intro hbb hnx)
  obtain ⟨pm, hpm⟩ : ∃ pm, putM m = pm := ⟨_, rfl⟩
  rw [hpm]
  have HP := Lib.hid hpm
  clear hwm h hgr hbb hnx hpm
  go_enter Tryz.func54, Tryz.ntmps54
  go_wp2_with (fail)
  refine HR.out.mono ?_
  rintro e w2 ⟨rfl, hg2⟩
  have HG2 := Lib.hid hg2
  have h2 := hg2.whole HWM.out
  have k0 := h2.cell 0
  have k1 := h2.cell 1
  simp only [List.getElem?_toArray, List.getElem?_cons_zero, List.getElem?_cons_succ] at k0 k1
  have HW2 := Lib.hid h2
  clear hg2 c0 c1 hw1 h2 HR
  cases b with
  | false =>
    obtain rfl : pm = [] := HP.out.symm.trans (putM_ill HB.out.1)
    go_wp2_with (fail)
    go_ret
    exact ⟨none, 0, 0, rfl, World.ownsRow_nil _ _ _ _, HG.out.trans HG2.out⟩
  | true =>
    have HN := Lib.hid (show n ≤ 1000 by have := rightM_len HB.out.1; have := HL.out; omega)
    have HPB := Lib.hid (show putB (bodyM m) = pm by rw [← HP.out, putM_right HB.out.1]; exact putB_good (bodyM_good HB.out.1))
    have hg3 := grows_alloc w2 (.cells #[.int .u8 8] 5)
    have ho3 : (w2.alloc (.cells #[.int .u8 8] 5)).ownsRow w2.heap.size 5 1 (.slice (some ⟨w2.heap.size, 0, none⟩) 1 1) 1 (([8] : List UInt8).map byteV) := World.ownsRow_lit w2 #[.int .u8 8] 1 (Nat.le_refl _) (by unfold maxLen; omega) rfl
    have hx3 := hg3.whole HW2.out
    have HO3 := Lib.hid ho3
    have HG3 := Lib.hid hg3
    have kk0 := hx3.cell 0
    have kk1 := hx3.cell 1
    simp only [List.getElem?_toArray, List.getElem?_cons_zero, List.getElem?_cons_succ] at kk0 kk1
    obtain ⟨x2, y2, hxy, hq2, hr2⟩ := numB2 n
    have ht1 : (n : Int).tdiv 256 = (n : Int) / 256 := Int.tdiv_eq_ediv_of_nonneg (by omega)
    have ht2 : (n : Int).tmod 256 = (n : Int) % 256 := Int.tmod_eq_emod_of_nonneg (by omega)
    have ht3 : IntKind.i64.wrap ((n : Int) / 256) = (n : Int) / 256 := IntWalk.i64_in _ ⟨by omega, by omega⟩
    have hr3 : (n : Int) % 256 % 256 = (y2.toNat : Int) := by omega
    have HXY := Lib.hid hxy
    clear hg3 ho3 hx3 hxy
    go_wp2_with (fail)
    have hpn := refFour_own w2.heap.size (some ⟨w2.heap.size, 0, none⟩) 1 1 [8] nx (w2.alloc (.cells #[.int .u8 8] 5)) HO3.out HG3.out.size (by omega)
    refine hpn.mono ?_
    clear hpn
    rintro e w4 ⟨A4, c4, rfl, ho4, hb4, hs4⟩
    have HG4 := Lib.hid (show Grows w2 w4 from Below.trans HG3.out hb4)
    have hm5 := Whole.made w4 5 #[.int .u8 (x2.toNat : Int), .int .u8 (y2.toNat : Int)]
    have HM5 := Lib.hid (Whole.sl hm5 [x2, y2] rfl (n := 2) rfl)
    have HO4 := Lib.hid (owned_grow ho4 (grows_alloc w4 (.cells #[.int .u8 (x2.toNat : Int), .int .u8 (y2.toNat : Int)] 5)))
    clear ho4 hb4 hs4 hm5 kk0 kk1 k0 k1
    go_wp2_with (at_builtin
                 refine list_app isSl_bytes isSl_bytes rfl (.tmp 15) (.tmp 22) rfl (base := w2.heap.size) rfl HO4.out (A := some ⟨w4.heap.size, 0, none⟩) (m := 2) (c := 2) rfl HM5.out (5 + 2) rfl (by omega) (by have := HG4.out.size; simp; omega) ?_
                 intro A5 c5 w5 ho5 hb5 hs5
                 have HG5 := Lib.hid (show Grows w2 w5 from Below.trans (Below.trans HG4.out (Below.alloc (Below.refl _ _) HG4.out.size _)) hb5)
                 have h5 := HG5.out.whole HW2.out
                 have r0 := h5.cell 0
                 have r1 := h5.cell 1
                 simp only [List.getElem?_toArray, List.getElem?_cons_zero, List.getElem?_cons_succ] at r0 r1
                 have HO5 := Lib.hid (show w5.ownsRow w2.heap.size 5 1 (.slice A5 7 c5) 7 ((headM m).map byteV) from by
                   unfold headM
                   rw [HB.out.2, HL.out, HXY.out]
                   simpa using ho5)
                 clear ho5 hb5 hs5 h5)
    go_loopw [4, 5] (fun v i wr => ∃ (A : Option Addr) (c j k : Nat), j ≤ n ∧ i = .int .i64 (j : Nat) ∧ v = .slice A k c ∧ Hid (k = 7 + 4 * j) ∧ Hid (wr.ownsRow w2.heap.size 5 1 (.slice A k c) k ((headM m ++ numsB (m.segs.take j)).map byteV)) ∧ Hid (Grows w2 wr)) (fun _ i _ => n - (intOf i).toNat)
    case atStart => exact ⟨A5, c5, 0, 7, by omega, rfl, rfl, Lib.hid rfl, Lib.hid (by simpa [numsB] using HO5.out), HG5⟩
    case round =>
      obtain ⟨A6, c6, j, k6, hj, rfl, rfl, HK, HR, HW⟩ := hrel
      clear r0 r1
      have hc := HW.out.whole HW2.out
      have v0 := hc.cell 0
      have v1 := hc.cell 1
      simp only [List.getElem?_toArray, List.getElem?_cons_zero, List.getElem?_cons_succ] at v0 v1
      clear hc
      by_cases hlt : j < n
      · have hlt' : (j : Int) < (n : Int) := by omega
        have hj0 : (0 : Int) ≤ (j : Int) := by omega
        have e5 : IntKind.i64.wrap ((j : Int) + 1) = (j : Int) + 1 := IntWalk.i64_in _ ⟨by omega, by have := HN.out; omega⟩
        obtain ⟨ad, x, rfl, hc, hx, hbk⟩ := ((HI.out.segs.grow HG2.out).grow HW.out).get hlt
        have HX := Lib.hid (nums_nextR hx)
        clear hx hbk
        go_wp2_with (fail)
        have hpn := refFour_own w2.heap.size A6 k6 c6 (headM m ++ numsB (m.segs.take j)) x wr HR.out HW.out.size (by have := HK.out; have := HN.out; omega)
        refine hpn.mono ?_
        clear hpn
        rintro e w7 ⟨A7, c7, rfl, ho7, hb7, hs7⟩
        have HO7 := Lib.hid ho7
        have HB7 := Lib.hid (show Grows w2 w7 from Below.trans HW.out hb7)
        clear ho7 hb7 hs7
        go_wp2_with (fail)
        go_roundw
        case rel => exact ⟨A7, c7, j + 1, k6 + 4, by omega, by first | rfl | go_num, rfl, Lib.hid (by have := HK.out; omega), Lib.hid (by rw [HX.out, ← List.append_assoc]; exact HO7.out), HB7⟩
        case measure => simp [intOf]; omega
      · obtain rfl : j = n := by omega
        have hlt' : ¬ ((j : Int) < (j : Int)) := by omega
        have hr := HR.out
        rw [List.take_of_length_le (by rw [HL.out]; exact Nat.le_refl _)] at hr
        have hfp := refPut_own A6 k6 c6 (bodyM m) wr (Sl.owned hr) (by have := HK.out; have := HN.out; unfold maxLen; omega)
        rw [HPB.out] at hfp
        have HF := Lib.hid hfp
        clear hr hfp
        go_wp2_with (fail)
        refine HF.out.mono ?_
        rintro e w8 ⟨A8, k8, c8, rfl, ho8, hb8⟩
        have HO8 := Lib.hid (owned_from ho8 (show w.heap.size ≤ wr.heap.size from Nat.le_trans (Nat.le_trans HG.out.size HG2.out.size) HW.out.size))
        have HG8 := Lib.hid (show Grows w w8 from HG.out.trans (HG2.out.trans (HW.out.trans hb8)))
        clear ho8 hb8
        go_wp2_with (fail)
        go_ret
        exact ⟨A8, k8, c8, rfl, HO8.out, HG8.out⟩
end Go.Proofs.YtdkpbphgaenlnaaGreat

/-
  The walk of the answer's Get of a manifest.
-/
namespace Go.Proofs.YtdkpbphgaenlnaaGreat
open Go.RowKit
set_option linter.unusedVariables false
set_option linter.unusedSimpArgs false

def refMan (x : List UInt8) : Mn := ⟨foursL (x.drop 7), valB ((x.drop 1).take 4)⟩
/-- The answer's way: the bytes are the manifest's that they seem to tell. -/
def refGetM (b : List UInt8) : Option Mn :=
  if (firstB b).2.2 = 0 ∧ (firstB b).2.1 = b.length ∧ 7 ≤ (firstB b).1.length then
    if putM (refMan (firstB b).1) = b then some (refMan (firstB b).1) else Option.none
  else Option.none
theorem told_ref {x : List UInt8} {m : Mn} (h : toldM x = some m) : 7 ≤ x.length ∧ refMan x = m := by
  unfold toldM at h
  split at h
  · cases h
  · rename_i h1
    split at h
    · cases h
    · injection h with h
      rw [not_or] at h1
      exact ⟨by omega, h⟩
theorem refGet_eq (b : List UInt8) : refGetM b = getM b := by
  have hback : ∀ m, refGetM b = some m → getM b = some m := by
    intro m h
    unfold refGetM at h
    split at h
    · rename_i h1
      split at h
      · rename_i h2
        injection h with h
        rw [h] at h2
        cases hr : rightM m with
        | true => rw [← h2]; exact get_putM hr
        | false =>
          rw [putM_ill hr] at h2
          subst h2
          exact absurd h1.1 (by decide)
      · cases h
    · cases h
  cases hg : getM b with
  | none =>
    cases hr : refGetM b with
    | none => rfl
    | some m => rw [hback m hr] at hg; cases hg
  | some m =>
    obtain ⟨hr, hp⟩ := put_getM hg
    unfold getM at hg
    by_cases h1 : (firstB b).2.2 = 0 ∧ (firstB b).2.1 = b.length
    · rw [if_pos h1] at hg
      cases ht : toldM (firstB b).1 with
      | none => rw [ht] at hg; cases hg
      | some m' =>
        rw [ht] at hg
        dsimp only at hg
        split at hg
        · injection hg with hg
          subst hg
          obtain ⟨h7, hm⟩ := told_ref ht
          unfold refGetM
          rw [if_pos ⟨h1.1, h1.2, h7⟩, hm, if_pos hp]
        · cases hg
    · rw [if_neg h1] at hg; cases hg
theorem fours_length : ∀ (k : Nat) (bs : List UInt8), bs.length < 4 * k + 4 → 4 * k ≤ bs.length → (foursL bs).length = k
  | 0, bs, h, _ => by
    match bs, h with
    | [], _ => rfl
    | [_], _ => rfl
    | [_, _], _ => rfl
    | [_, _, _], _ => rfl
    | _ :: _ :: _ :: _ :: _, h => simp only [List.length_cons] at h; omega
  | k + 1, bs, h, h2 => by
    match bs, h, h2 with
    | a :: b :: c :: d :: r, h, h2 =>
      simp only [List.length_cons] at h h2
      rw [foursL, List.length_cons, fours_length k r (by omega) (by omega)]
    | [], _, h2 => simp at h2
    | [_], _, h2 => simp only [List.length_cons, List.length_nil] at h2; omega
    | [_, _], _, h2 => simp only [List.length_cons, List.length_nil] at h2; omega
    | [_, _, _], _, h2 => simp only [List.length_cons, List.length_nil] at h2; omega
theorem fours_at : ∀ (j : Nat) (bs : List UInt8), 4 * j + 4 ≤ bs.length → (foursL bs)[j]? = some (valB ((bs.drop (4 * j)).take 4))
  | 0, bs, h => by
    match bs, h with
    | a :: b :: c :: d :: r, _ => rfl
    | [], h => simp at h
    | [_], h => simp at h
    | [_, _], h => simp at h
    | [_, _, _], h => simp at h
  | j + 1, bs, h => by
    match bs, h with
    | a :: b :: c :: d :: r, h =>
      simp only [List.length_cons] at h
      rw [foursL, List.getElem?_cons_succ, fours_at j r (by omega), show 4 * (j + 1) = 4 * j + 1 + 1 + 1 + 1 by omega, List.drop_succ_cons, List.drop_succ_cons, List.drop_succ_cons, List.drop_succ_cons]
    | [], h => simp at h
    | [_], h => simp only [List.length_cons, List.length_nil] at h; omega
    | [_, _], h => simp only [List.length_cons, List.length_nil] at h; omega
    | [_, _, _], h => simp only [List.length_cons, List.length_nil] at h; omega
theorem fours_next {z : List UInt8} {j : Nat} {v : Int} (h : (foursL z)[j]? = some v) : ((foursL z).take (j + 1)).map iV = ((foursL z).take j).map iV ++ [.int .i64 v] := by
  obtain ⟨h1, h2⟩ := List.getElem?_eq_some_iff.1 h
  rw [List.take_succ_eq_append_getElem h1, List.map_append, List.map_cons, List.map_nil, h2]
  rfl
/-- One more number in the manifest of block g. -/
theorem four_one {g B k fc c1 : Nat} {nx : Int} {W wr w5 : World} {FA A1 : Option Addr} {ys : List Value} (hg : g < B) (hWB : W.heap.size = B) (hlt : ∀ q, (Value.slice FA k fc).ownBlock = some q → B ≤ q)
    (hman : Whole wr g 31 #[.slice FA k fc, .int .i64 nx]) (hsp0 : Spares (fun q => q = g) W wr) (hsp : Spares (fun q => (Value.slice FA k fc).ownBlock = some q) wr w5) (hown : w5.ownsRow B 3 1 (.slice A1 (k + 1) c1) (k + 1) ys) :
    Whole (w5.setCell ⟨g, 0, none⟩ (.slice A1 (k + 1) c1)) g 31 #[.slice A1 (k + 1) c1, .int .i64 nx] ∧ (w5.setCell ⟨g, 0, none⟩ (.slice A1 (k + 1) c1)).ownsRow B 3 1 (.slice A1 (k + 1) c1) (k + 1) ys ∧ Spares (fun q => q = g) W (w5.setCell ⟨g, 0, none⟩ (.slice A1 (k + 1) c1)) := by
  have hm5 : Whole w5 g 31 #[.slice FA k fc, .int .i64 nx] := hman.same (hsp.same g hman.lt fun e => by have := hlt g e; omega)
  refine ⟨hm5.put 0 _, ownsRow_setCell_below hown (by dsimp only; omega) _, ?_⟩
  have h1 : Spares (fun q => q = g ∨ B ≤ q) W w5 := (hsp0.wider fun q _ e => .inl e).trans (hsp.wider fun q _ e => .inr (hlt q e))
  exact (h1.setCell (p := ⟨g, 0, none⟩) (.inl rfl) _).wider fun q hq e => e.elim id fun e => by omega
theorem ref_small {x : List UInt8} : (∀ n ∈ (refMan x).segs, In64 n) ∧ In64 (refMan x).next := by
  refine ⟨fun n hn => ?_, ?_⟩
  · have := fours_small _ n hn
    unfold In64
    omega
  · have h1 := valB_lt ((x.drop 1).take 4)
    have h2 : ((x.drop 1).take 4).length ≤ 4 := by rw [List.length_take]; omega
    have h3 : (256 : Int) ^ ((x.drop 1).take 4).length ≤ 4294967296 := by
      generalize ((x.drop 1).take 4).length = q at *
      obtain h | h | h | h | h : q = 0 ∨ q = 1 ∨ q = 2 ∨ q = 3 ∨ q = 4 := by omega
      all_goals
        subst h
        decide
    show In64 (valB ((x.drop 1).take 4))
    unfold In64
    omega

set_option maxRecDepth 100000 in
set_option maxHeartbeats 8000000 in
theorem mrefGet_any (w : World) (A : Option Addr) (n c : Nat) (bs : List UInt8) (h : Sl w A n c bs) (hn : n ≤ 140737488351232) :
    Calls Tryz.prog 78 #[.slice A n c] w (MnTo w (getM bs)) := by
  rw [← refGet_eq bs]
  have hlen := h.len
  have hm := Whole.made w 31 #[.slice none 0 0, .int .i64 0]
  have hg := grows_alloc w (.cells #[.slice none 0 0, .int .i64 0] 31)
  have HS := Lib.hid (h.grow hg)
  obtain ⟨w1, hw1⟩ : ∃ x, w.alloc (.cells #[.slice none 0 0, .int .i64 0] 31) = x := ⟨_, rfl⟩
  rw [hw1] at hm hg HS
  have HG := Lib.hid hg
  have HM := Lib.hid hm
  have HF := Lib.hid (refFirst_any A n c bs w1 HS.out (by omega))
  obtain ⟨o, ho⟩ : ∃ o, refGetM bs = o := ⟨_, rfl⟩
  rw [ho]
  obtain ⟨⟨y, k, er⟩, hf⟩ : ∃ q, firstB bs = q := ⟨_, rfl⟩
  rw [hf] at HF
  unfold refGetM at ho
  rw [hf, hlen] at ho
  dsimp only at ho HF
  have HS1 := Lib.hid (show w1.heap.size = w.heap.size + 1 by rw [← hw1, World.size_alloc])
  clear h hm hg
  go_enter Tryz.func78, Tryz.ntmps78
  go_wp2_with (fail)
  refine HF.out.mono ?_
  rintro e w2 ⟨A2, L, yc, rfl, hs2, hb2⟩
  have HG2 := Lib.hid (show Grows w1 w2 from hb2)
  have HS2 := Lib.hid hs2
  have hm2 := HG2.out.whole HM.out
  have HM2 := Lib.hid hm2
  have k0 := hm2.free 0
  have k1 := hm2.free 1
  have k2 := hm2.cell 0
  have k3 := hm2.cell 1
  simp only [List.getElem?_toArray, List.getElem?_cons_zero, List.getElem?_cons_succ] at k0 k1 k2 k3
  have hyL : y.length = L := hs2.len
  rw [hyL] at ho
  clear hs2 hb2 hm2 hw1 HF
  by_cases her : er = 0
  rotate_left 1
  · have herb : (((er : Nat) : Int) != 0) = true := by rw [bne_iff_ne]; omega
    obtain rfl : o = none := by rw [← ho, if_neg (fun h => her h.1)]
    clear her ho
    go_wp2_with (fail)
    refine bodyPost_ret (results_man rfl _ _ w.heap.size _ _ _ (.bool false) rfl rfl (show Whole _ _ _ #[.slice none 0 0, .int .i64 0] from (HM2.out.put 0 _).put 1 _)) rfl ?_
    exact MnTo.none ((Below.setCell (p := ⟨w.heap.size, 0, none⟩) (HG.out.trans HG2.out) (Nat.le_refl _) _).setCell (p := ⟨w.heap.size, 1, none⟩) (Nat.le_refl _) _)
  subst her
  by_cases hkn : k = n
  rotate_left 1
  · have hknb : (((k : Nat) : Int) != ((n : Nat) : Int)) = true := by rw [bne_iff_ne]; omega
    obtain rfl : o = none := by rw [← ho, if_neg (fun h => hkn h.2.1)]
    clear hkn ho
    go_wp2_with (fail)
    refine bodyPost_ret (results_man rfl _ _ w.heap.size _ _ _ (.bool false) rfl rfl (show Whole _ _ _ #[.slice none 0 0, .int .i64 0] from (HM2.out.put 0 _).put 1 _)) rfl ?_
    exact MnTo.none ((Below.setCell (p := ⟨w.heap.size, 0, none⟩) (HG.out.trans HG2.out) (Nat.le_refl _) _).setCell (p := ⟨w.heap.size, 1, none⟩) (Nat.le_refl _) _)
  subst hkn
  by_cases hL7 : 7 ≤ L
  rotate_left 1
  · have hL7b : (L : Int) < 7 := by omega
    obtain rfl : o = none := by rw [← ho, if_neg (fun h => hL7 h.2.2)]
    clear ho
    go_wp2_with (fail)
    refine bodyPost_ret (results_man rfl _ _ w.heap.size _ _ _ (.bool false) rfl rfl (show Whole _ _ _ #[.slice none 0 0, .int .i64 0] from (HM2.out.put 0 _).put 1 _)) rfl ?_
    exact MnTo.none ((Below.setCell (p := ⟨w.heap.size, 0, none⟩) (HG.out.trans HG2.out) (Nat.le_refl _) _).setCell (p := ⟨w.heap.size, 1, none⟩) (Nat.le_refl _) _)
  rw [if_pos ⟨rfl, rfl, hL7⟩] at ho
  have hL7b : ¬ ((L : Int) < 7) := by omega
  have hyl := first_body hf
  have HBK := Lib.hid (show 9 ≤ k from (first_got hf).1)
  rw [hyL] at hyl
  obtain ⟨ad, rfl, _, _⟩ := HS2.out.bytes.spot (k := 0) (by omega)
  have hyc : L ≤ yc := HS2.out.cap
  have h5c : (5 : Int) ≤ (yc : Int) := by omega
  have hc1 : ¬ yc = 1 := by omega
  have hp1 := HS2.out.part (k := 1) (m := 5) (by omega) (by omega) (by omega)
  rw [List.drop_take, show 5 - 1 = 4 from rfl] at hp1
  obtain ⟨nx, hnx⟩ : ∃ nx, valB ((y.drop 1).take 4) = nx := ⟨_, rfl⟩
  have hu1 := refUnfour_any w2 _ (yc - 1) _ hp1
  rw [hnx] at hu1
  have HU1 := Lib.hid hu1
  have HNX := Lib.hid hnx
  have HO := Lib.hid ho
  have HYL := Lib.hid (And.intro hyL hyl)
  have HL := Lib.hid (And.intro hL7 hyc)
  clear hf ho hp1 hu1 hnx hyL hyl
  go_wp2_with (fail)
  refine HU1.out.mono ?_
  rintro e w3 ⟨rfl, hg3⟩
  have hm3 := hg3.whole HM2.out
  have q0 := hm3.free 0
  have q1 := hm3.free 1
  have q2 := hm3.cell 0
  have q3 := hm3.cell 1
  simp only [List.getElem?_toArray, List.getElem?_cons_zero, List.getElem?_cons_succ] at q0 q1 q2 q3
  have HX3 := Lib.hid (And.intro hg3 hm3)
  clear hg3 hm3 k0 k1 k2 k3
  go_wp2_with (fail)
  have hg4 := grows_alloc w3 (.cells #[.slice none 0 0, .int .i64 nx] 31)
  have hm4 := Whole.made w3 31 #[.slice none 0 0, .int .i64 nx]
  have hs4 : (w3.alloc (.cells #[.slice none 0 0, .int .i64 nx] 31)).heap.size = w3.heap.size + 1 := World.size_alloc _ _
  obtain ⟨W4, hW4⟩ : ∃ x, w3.alloc (.cells #[.slice none 0 0, .int .i64 nx] 31) = x := ⟨_, rfl⟩
  obtain ⟨g, hgg⟩ : ∃ g, w3.heap.size = g := ⟨_, rfl⟩
  rw [hW4] at hg4 hm4 hs4 ⊢
  rw [hgg] at hm4 hs4 ⊢
  obtain ⟨B, hB⟩ : ∃ B, W4.heap.size = B := ⟨_, rfl⟩
  obtain ⟨z, hz⟩ : ∃ z, y.drop 7 = z := ⟨_, rfl⟩
  have h1g : w1.heap.size ≤ g := by rw [← hgg]; exact Nat.le_trans HG2.out.size HX3.out.1.size
  have HW := Lib.hid (And.intro (show w.heap.size < g by have := HS1.out; omega) (show g < B by omega))
  have HBB := Lib.hid hB
  have HGW := Lib.hid (show Grows w W4 from HG.out.trans (HG2.out.trans (HX3.out.1.trans hg4)))
  have HR4 := Lib.hid (hg4.whole HX3.out.2)
  have HM4 := Lib.hid hm4
  have HY4 := Lib.hid (HS2.out.grow (HX3.out.1.trans hg4))
  have HB4 := Lib.hid (And.intro (HS.out.grow (HG2.out.trans (HX3.out.1.trans hg4))) (show ∀ a, A = some a → a.block < g from fun a ha => by
    subst ha
    obtain ⟨_, e, hb, _⟩ := HS.out.bytes.spot (k := 0) (by have := HBK.out; omega)
    injection e with e
    subst e
    omega))
  have HYB := Lib.hid (show ad.block < g from by
    obtain ⟨_, e, hb, _⟩ := HS2.out.bytes.spot (k := 0) (by omega)
    injection e with e
    subst e
    have := HX3.out.1.size
    omega)
  have HZ := Lib.hid hz
  have HZL := Lib.hid (show z.length = L - 7 by rw [← hz, List.length_drop, HYL.out.1])
  clear hg4 hm4 hs4 hW4 hgg hB hz h1g q0 q1 q2 q3 HU1
  go_loopw [8] (fun i wr => ∃ (FA : Option Addr) (fc j p : Nat), i = .int .i64 (p : Nat) ∧ Hid (p = 7 + 4 * j ∧ p ≤ L) ∧ Hid (Whole wr g 31 #[.slice FA j fc, .int .i64 nx]) ∧ Hid (wr.ownsRow B 3 1 (.slice FA j fc) j (((foursL z).take j).map iV)) ∧ Hid (Spares (fun q => q = g) W4 wr)) (fun i _ => L - (intOf i).toNat)
  case atStart => exact ⟨none, 0, 0, 7, rfl, Lib.hid ⟨rfl, hL7⟩, HM4, Lib.hid (World.ownsRow_nil _ _ _ _), Lib.hid (Spares.refl _ _)⟩
  case round =>
    obtain ⟨FA, fc, j, p, rfl, HJ, HMAN, HOWN0, HSP⟩ := hrel
    obtain ⟨r, hr⟩ : ∃ r, p + 4 = r := ⟨_, rfl⟩
    have hpL := HJ.out.2
    have hyl8 := HYL.out.2
    have e4 : IntKind.i64.wrap ((p : Int) + 4) = (r : Int) := (IntWalk.i64_in _ ⟨by omega, by omega⟩).trans (by omega)
    by_cases hle : r ≤ L
    · have hle' : (r : Int) ≤ (L : Int) := by omega
      have hpr : (p : Int) ≤ (r : Int) := by omega
      have hry : (r : Int) ≤ (yc : Int) := by omega
      have hrp : r - p = 4 := by omega
      have hne : ¬ yc = p := by omega
      have hp0 : (0 : Int) ≤ (p : Int) := by omega
      have HLOW := Lib.hid (show ∀ q, (Value.slice FA j fc).ownBlock = some q → B ≤ q ∧ q < wr.heap.size from fun q hq => HOWN0.out.lt q hq)
      obtain ⟨xb, hxb⟩ : ∃ xb, (z.drop (4 * j)).take 4 = xb := ⟨_, rfl⟩
      obtain ⟨v, hv⟩ : ∃ v, valB xb = v := ⟨_, rfl⟩
      have HV := Lib.hid hv
      have hat := fours_at j z (by have := HZL.out; have := HJ.out.1; omega)
      rw [hxb, hv] at hat
      have HNX2 := Lib.hid (fours_next hat)
      have HX := Lib.hid (show ∀ w', Spares (fun q => (Value.slice FA j fc).ownBlock = some q) wr w' → Sl w' (some (ad.add p)) 4 (yc - p) xb from fun w' hC => by
        have h1 := (HY4.out.spare HSP.out fun a e h => by injection e with e; subst e; have := HYB.out; omega).spare hC fun a e h => by
          injection e with e; subst e; have := (HLOW.out _ h).1; have := HYB.out; have := HW.out.2; omega
        have h2 := h1.part (k := p) (m := r) (by omega) (by omega) (by omega)
        rw [List.drop_take, hrp] at h2
        rw [← hxb, ← HZ.out, List.drop_drop, ← HJ.out.1]
        exact h2)
      have HC := Lib.hid (show ∀ w', Spares (fun q => (Value.slice FA j fc).ownBlock = some q) wr w' → w'.cell? { block := g, off := 0 } = some (.slice FA j fc) ∧ w'.frozen? { block := g, off := 0 } = false from fun w' hC => by
        have h1 := HMAN.out.same (hC.same _ HMAN.out.lt fun e => by have := (HLOW.out _ e).1; have := HW.out.2; omega)
        exact ⟨h1.cell 0, h1.free 0⟩)
      obtain ⟨ys, hys⟩ : ∃ ys, ((foursL z).take j).map iV = ys := ⟨_, rfl⟩
      rw [hys] at HOWN0 HNX2
      have HOWN := HOWN0
      obtain ⟨i0, hi0, hz0, hz1, hz2⟩ := info_parts infoI
      have HII := Lib.hid (And.intro hi0 (And.intro hz0 (And.intro hz1 hz2)))
      have HVS := Lib.hid (show B ≤ wr.heap.size by rw [← HBB.out]; exact HSP.out.size)
      have HK := Lib.hid (show j ≤ 20000 by have := HJ.out; omega)
      have HRP := Lib.hid (And.intro hr hle)
      clear hxb hv hat hys hi0 hz0 hz1 hz2 hr hpL
      go_wp2_with (fail)
      refine wp_region_jobs (G := Grows) (E := Spares (fun q => (Value.slice FA j fc).ownBlock = some q)) 11 [valJob (fun q => (Value.slice FA j fc).ownBlock = some q) (.pointer (some ⟨g, 0, none⟩)), valJob (fun q => (Value.slice FA j fc).ownBlock = some q) (.slice FA j fc), valJob (fun q => (Value.slice FA j fc).ownBlock = some q) (.slice (some ad) L yc), valJob (fun q => (Value.slice FA j fc).ownBlock = some q) (.int .i64 (p : Nat)), valJob (fun q => (Value.slice FA j fc).ownBlock = some q) (.int .i64 (p : Nat)), valJob (fun q => (Value.slice FA j fc).ownBlock = some q) (.int .i64 (r : Nat)), valJob (fun q => (Value.slice FA j fc).ownBlock = some q) (.slice (some (ad.add p)) 4 (yc - p)), valJob (fun q => (Value.slice FA j fc).ownBlock = some q) (.int .i64 v), blkJob (fun q => (Value.slice FA j fc).ownBlock = some q) (3) (#[.int .i64 v]) 1, appJob (fun q => (Value.slice FA j fc).ownBlock = some q) B 3 (.slice FA j fc) wr.heap.size (j + 1) (ys ++ [.int .i64 v]), valJob (fun q => (Value.slice FA j fc).ownBlock = some q) (.pointer (some ⟨g, 0, none⟩))] [(false, false), (false, false), (false, false), (false, false), (false, false), (false, false), (false, false), (false, false), (false, false), (true, true), (false, false)] (fun w => w.ownsRow B 3 1 (.slice FA j fc) j ys) rfl mixed (by kernel_rfl) (fun _ _ => Spares.grows) (fun _ _ _ => Spares.trans) (spares_drew _ _) (row_sameM HOWN.out fun _ _ => rfl) (fun _ _ h q => owned_grow h q) ?_
      simp only [List.take_succ_cons, List.take_zero, List.drop_succ_cons, List.drop_zero]
      refine j_val (.pointer (some ⟨g, 0, none⟩)) (by rfl) ?_ ?_
      · intro w' hC; clear hC; first | (go_simp; done)
      simp only [Act.put, List.setIfInBounds_toArray, List.set_cons_zero, List.set_cons_succ]
      refine j_val (.slice FA j fc) (by rfl) ?_ ?_
      · intro w' hC; obtain ⟨z1, z2⟩ := HC.out w' hC; clear hC; first | (go_simp; done)
      simp only [Act.put, List.setIfInBounds_toArray, List.set_cons_zero, List.set_cons_succ]
      refine j_val (.slice (some ad) L yc) (by rfl) ?_ ?_
      · intro w' hC; clear hC; first | (go_simp; done)
      simp only [Act.put, List.setIfInBounds_toArray, List.set_cons_zero, List.set_cons_succ]
      refine j_val (.int .i64 (p : Nat)) (by rfl) ?_ ?_
      · intro w' hC; clear hC; first | (go_simp; done)
      simp only [Act.put, List.setIfInBounds_toArray, List.set_cons_zero, List.set_cons_succ]
      refine j_val (.int .i64 (p : Nat)) (by rfl) ?_ ?_
      · intro w' hC; clear hC; first | (go_simp; done)
      simp only [Act.put, List.setIfInBounds_toArray, List.set_cons_zero, List.set_cons_succ]
      refine j_val (.int .i64 (r : Nat)) (by rfl) ?_ ?_
      · intro w' hC; clear hC; first | (go_simp; done)
      simp only [Act.put, List.setIfInBounds_toArray, List.set_cons_zero, List.set_cons_succ]
      refine j_val (.slice (some (ad.add p)) 4 (yc - p)) (by rfl) ?_ ?_
      · intro w' hC; clear hC; first | (go_simp; done)
      simp only [Act.put, List.setIfInBounds_toArray, List.set_cons_zero, List.set_cons_succ]
      refine j_call 117 #[.slice (some (ad.add p)) 4 (yc - p)] (.int .i64 v) (by rfl) (by intro w' hC; clear hC; go_simp) ?_ ?_
      · intro w' hC hks; rw [← HV.out]; exact refUnfour_any w' (some (ad.add p)) (yc - p) xb (HX.out w' hC)
      simp only [Act.put, List.setIfInBounds_toArray, List.set_cons_zero, List.set_cons_succ]
      refine j_made (3) (#[.int .i64 v]) 1 (fun q h => (HLOW.out q h).2) (by rfl) ?_ ?_
      · intro w' hC; clear hC; go_simp
      intro lg
      simp only [Act.put, List.setIfInBounds_toArray, List.set_cons_zero, List.set_cons_succ]
      refine j_append (A0 := FA) (n := j) (c0 := fc) (xs := ys) (A := some ⟨lg, 0, none⟩) (m := 1) (c := 1) (news := [v].map iV) ?_ (.tmp 41) (.tmp 48) 29 ?_ (B := wr.heap.size) Tryz.underlying29 HII.out.1 HII.out.2.1 HII.out.2.2.1 HII.out.2.2.2 ?_ ?_ (.slice FA j fc) ?_ ?_ ?_ ?_ ?_ ?_ ?_ (iV_one [v]) (j + 1) rfl (ys ++ [.int .i64 v]) rfl ?_ ?_ HVS.out ?_ ?_
      · rfl
      · rfl
      · rfl
      · rfl
      · exact fun w' h => ⟨h, .inl rfl⟩
      · exact Nat.le_refl _
      · exact fun _ h => h
      · exact fun _ _ _ h _ => h
      · rfl
      · intro w' hC hks
        have hh := Known.get hks 0 rfl rfl
        exact ⟨_, (Ints.lit hh.1 [v] rfl (n := 1) rfl).row⟩
      · exact fun h => by cases h
      · unfold maxLen; have := HK.out; omega
      · have := HK.out; omega
      · exact fun _ _ _ _ h _ => h
      intro A1 c1
      simp only [Act.put, List.setIfInBounds_toArray, List.set_cons_zero, List.set_cons_succ]
      refine j_val (.pointer (some ⟨g, 0, none⟩)) (by rfl) ?_ ?_
      · intro w' hC; clear hC; first | (go_simp; done)
      simp only [Act.put, List.setIfInBounds_toArray, List.set_cons_zero, List.set_cons_succ]
      refine wpJ_end ?_
      intro w5 hC hks hcls
      have HCw5 := Lib.hid hC
      have HLw5 := Lib.hid hcls
      clear hC hks hcls
      obtain ⟨z1, z2⟩ := HC.out w5 HCw5.out
      go_wp2_with (fail)
      have HO := Lib.hid (four_one HW.out.2 HBB.out (fun q hq => (HLOW.out q hq).1) HMAN.out HSP.out HCw5.out HLw5.out.1)
      go_roundw
      case rel => exact ⟨A1, c1, j + 1, r, by first | rfl | go_num, Lib.hid ⟨by have := HJ.out.1; have := HRP.out.1; omega, HRP.out.2⟩, Lib.hid HO.out.1, Lib.hid (by rw [HNX2.out]; exact HO.out.2.1), Lib.hid HO.out.2.2⟩
      case measure => simp [intOf]; have := HRP.out; omega
    · have hle' : ¬ ((r : Int) ≤ (L : Int)) := by omega
      have hfl := fours_length j z (by have := HZL.out; have := HJ.out.1; omega) (by have := HZL.out; have := HJ.out.1; omega)
      have hown := HOWN0.out
      rw [List.take_of_length_le (by omega)] at hown
      have hmy : refMan y = ⟨foursL z, nx⟩ := by unfold refMan; rw [HZ.out, HNX.out]
      have ho := HO.out
      rw [hmy] at ho
      obtain ⟨pm, hpm⟩ : ∃ pm, putM (⟨foursL z, nx⟩ : Mn) = pm := ⟨_, rfl⟩
      rw [hpm] at ho
      have hsm := ref_small (x := y)
      rw [hmy] at hsm
      have HO2 := Lib.hid ho
      have HPT := Lib.hid (fun w' (hC : Grows wr w') => by
        have h := mrefPut_any w' FA j fc ⟨foursL z, nx⟩ ⟨(Ints.owned (owned_from hown (Nat.zero_le _))).grow hC, hsm.1, hsm.2⟩ (by have := HJ.out; omega)
        rw [hpm] at h
        exact h.mono fun _ _ ⟨A', k', c', he, ho', hg'⟩ => (⟨A', k', c', he, Sl.owned ho', hg'⟩ : ∃ A' m' c', _ = Ending.returned (.slice A' m' c') ∧ Sl _ A' m' c' pm ∧ Below w'.heap.size w' _))
      have HSB := Lib.hid (HB4.out.1.spare HSP.out fun a e h => by have := HB4.out.2 a e; omega)
      have hres : Whole wr w.heap.size 31 #[.slice none 0 0, .int .i64 0] := HR4.out.same (HSP.out.same _ HR4.out.lt fun e => by have := HW.out.1; omega)
      have HCC := Lib.hid (show ∀ w', Grows wr w' → w'.cell? { block := g, off := 0 } = some (.slice FA j fc) ∧ w'.cell? { block := g, off := 1 } = some (.int .i64 nx) from fun w' hC => ⟨(hC.whole HMAN.out).cell 0, (hC.whole HMAN.out).cell 1⟩)
      have HRES := Lib.hid (And.intro hres (And.intro hown hmy))
      have HGR := Lib.hid (show Grows w wr from Below.trans HGW.out (HSP.out.below HGW.out.size fun q hq e => by have := HW.out.1; omega))
      clear hfl hown hmy ho hpm hsm hres hpL
      by_cases hq : pm = bs
      · obtain rfl : o = some ⟨foursL z, nx⟩ := by rw [← HO2.out, if_pos hq]
        have HQ := Lib.hid hq
        clear hq
        go_wp2_with (fail)
        refine wp_region_facts (E := Grows) [valFact (.agg #[.slice FA j fc, .int .i64 nx]), slFact (pm), valFact (.string ⟨pm.toArray⟩), valFact (.slice A k c), valFact (.string ⟨bs.toArray⟩), valFact (.bool false)] (by kernel_rfl) (by kernel_rfl) (fun _ _ _ => Grows.trans) (grows_drew _) ?_
        refine f_val (.agg #[.slice FA j fc, .int .i64 nx]) (by rfl) ?_ ?_
        · intro w' hC; obtain ⟨z0, z1⟩ := HCC.out w' hC; clear hC; first | (go_simp; done)
        simp only [Act.put, List.setIfInBounds_toArray, List.set_cons_zero, List.set_cons_succ]
        refine f_new (pm) 54 #[.agg #[.slice FA j fc, .int .i64 nx]] (by rfl) (by intro w' hC; clear hC; go_simp) ?_ ?_
        · intro w' hC hks; exact HPT.out w' hC
        intro PA pc
        simp only [Act.put, List.setIfInBounds_toArray, List.set_cons_zero, List.set_cons_succ]
        refine f_known (.string ⟨pm.toArray⟩) (by rfl) ?_ ?_
        · intro w' hC hks; exact run_op_string rfl rfl (Known.get hks 0 rfl (by rfl))
        simp only [Act.put, List.setIfInBounds_toArray, List.set_cons_zero, List.set_cons_succ]
        refine f_val (.slice A k c) (by rfl) ?_ ?_
        · intro w' hC; clear hC; first | (go_simp; done)
        simp only [Act.put, List.setIfInBounds_toArray, List.set_cons_zero, List.set_cons_succ]
        refine f_known (.string ⟨bs.toArray⟩) (by rfl) ?_ ?_
        · intro w' hC hks; exact run_op_string rfl rfl (HSB.out.grow hC)
        simp only [Act.put, List.setIfInBounds_toArray, List.set_cons_zero, List.set_cons_succ]
        refine f_val (.bool false) (by rfl) ?_ ?_
        · intro w' hC; have hq := HQ.out; clear hC; first | (go_simp; done)
        simp only [Act.put, List.setIfInBounds_toArray, List.set_cons_zero, List.set_cons_succ]
        refine wpF_end ?_
        intro w10 hC hks
        have HCw10 := Lib.hid hC
        clear hC hks
        have hm10 := HCw10.out.whole HMAN.out
        have hr10 := HCw10.out.whole HRES.out.1
        have p0 := hr10.free 0
        have p1 := hr10.free 1
        have p2 := hr10.cell 0
        have p3 := hr10.cell 1
        have p4 := hm10.cell 0
        have p5 := hm10.cell 1
        simp only [List.getElem?_toArray, List.getElem?_cons_zero, List.getElem?_cons_succ] at p0 p1 p2 p3 p4 p5
        have HM6 := Lib.hid hr10
        clear hm10 hr10
        go_wp2_with (fail)
        refine bodyPost_ret (results_man rfl _ _ w.heap.size _ _ _ (.bool true) rfl rfl (show Whole _ _ _ #[.slice FA j fc, .int .i64 nx] from (HM6.out.put 0 _).put 1 _)) rfl ?_
        have hsp : Spares (fun q => q = w.heap.size) w10 ((w10.setCell ⟨w.heap.size, 0, none⟩ (.slice FA j fc)).setCell ⟨w.heap.size, 1, none⟩ (.int .i64 nx)) := ((Spares.refl (fun q => q = w.heap.size) w10).setCell (p := ⟨w.heap.size, 0, none⟩) rfl _).setCell (p := ⟨w.heap.size, 1, none⟩) rfl _
        have ho10 := owned_grow HRES.out.2.1 HCw10.out
        refine ⟨FA, j, fc, rfl, owned_from (row_sameM ho10 fun q hq => hsp.same q (ho10.lt q hq).2 (by have := (ho10.lt q hq).1; have := HW.out; omega)) (by have := HW.out; omega), Below.trans (HGR.out.trans HCw10.out) (hsp.below (HGR.out.trans HCw10.out).size fun q hq e => by omega)⟩
      · obtain rfl : o = none := by rw [← HO2.out, if_neg hq]
        have HQ := Lib.hid hq
        clear hq
        go_wp2_with (fail)
        refine wp_region_facts (E := Grows) [valFact (.agg #[.slice FA j fc, .int .i64 nx]), slFact (pm), valFact (.string ⟨pm.toArray⟩), valFact (.slice A k c), valFact (.string ⟨bs.toArray⟩), valFact (.bool true)] (by kernel_rfl) (by kernel_rfl) (fun _ _ _ => Grows.trans) (grows_drew _) ?_
        refine f_val (.agg #[.slice FA j fc, .int .i64 nx]) (by rfl) ?_ ?_
        · intro w' hC; obtain ⟨z0, z1⟩ := HCC.out w' hC; clear hC; first | (go_simp; done)
        simp only [Act.put, List.setIfInBounds_toArray, List.set_cons_zero, List.set_cons_succ]
        refine f_new (pm) 54 #[.agg #[.slice FA j fc, .int .i64 nx]] (by rfl) (by intro w' hC; clear hC; go_simp) ?_ ?_
        · intro w' hC hks; exact HPT.out w' hC
        intro PA pc
        simp only [Act.put, List.setIfInBounds_toArray, List.set_cons_zero, List.set_cons_succ]
        refine f_known (.string ⟨pm.toArray⟩) (by rfl) ?_ ?_
        · intro w' hC hks; exact run_op_string rfl rfl (Known.get hks 0 rfl (by rfl))
        simp only [Act.put, List.setIfInBounds_toArray, List.set_cons_zero, List.set_cons_succ]
        refine f_val (.slice A k c) (by rfl) ?_ ?_
        · intro w' hC; clear hC; first | (go_simp; done)
        simp only [Act.put, List.setIfInBounds_toArray, List.set_cons_zero, List.set_cons_succ]
        refine f_known (.string ⟨bs.toArray⟩) (by rfl) ?_ ?_
        · intro w' hC hks; exact run_op_string rfl rfl (HSB.out.grow hC)
        simp only [Act.put, List.setIfInBounds_toArray, List.set_cons_zero, List.set_cons_succ]
        refine f_val (.bool true) (by rfl) ?_ ?_
        · intro w' hC; have hq := HQ.out; clear hC; first | (go_simp; done)
        simp only [Act.put, List.setIfInBounds_toArray, List.set_cons_zero, List.set_cons_succ]
        refine wpF_end ?_
        intro w10 hC hks
        have HCw10 := Lib.hid hC
        clear hC hks
        have hr10 := HCw10.out.whole HRES.out.1
        have p0 := hr10.free 0
        have p1 := hr10.free 1
        have p2 := hr10.cell 0
        have p3 := hr10.cell 1
        simp only [List.getElem?_toArray, List.getElem?_cons_zero, List.getElem?_cons_succ] at p0 p1 p2 p3
        have HM6 := Lib.hid hr10
        clear hr10
        go_wp2_with (fail)
        refine bodyPost_ret (results_man rfl _ _ w.heap.size _ _ _ (.bool false) rfl rfl (show Whole _ _ _ #[.slice none 0 0, .int .i64 0] from (HM6.out.put 0 _).put 1 _)) rfl ?_
        exact MnTo.none ((Below.setCell (p := ⟨w.heap.size, 0, none⟩) (HGR.out.trans HCw10.out) (Nat.le_refl _) _).setCell (p := ⟨w.heap.size, 1, none⟩) (Nat.le_refl _) _)
end Go.Proofs.YtdkpbphgaenlnaaGreat
