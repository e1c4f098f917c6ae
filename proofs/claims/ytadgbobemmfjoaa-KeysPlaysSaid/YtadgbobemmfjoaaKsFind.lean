/-
  keys: in which row, and cell, a key stands.
-/
import Derived.Test.YtadgbobemmfjoaaKsMem
import Derived.Test.YtadgbobemmfjoaaFactsTail
import Derived.Test.YtadgbobemmfjoaaSteps
namespace Go.Proofs.Ytadgbobemmfjoaa
open Go.RowKit
set_option linter.unusedVariables false
set_option linter.unusedSimpArgs false
attribute [local irreducible] wpF

set_option maxHeartbeats 1000000 in
theorem cell_any (key : List UInt8) (hk : key.length ≤ 1000000000) {b o g n : Nat} (w : World) (hc : w.cell? ⟨b, o, none⟩ = some (.slice (some ⟨g, 0, none⟩) n n)) (hn : 0 < n ∧ n ≤ 1000000) :
    Calls Try.prog 38 #[.pointer (some ⟨b, o, none⟩), .string ⟨key.toArray⟩] w fun e w' => e = .returned (.int .i64 (cellOf n key : Nat)) ∧ Grows w w' := by
  have hb := World.block_lt_of_cell? w ⟨b, o, none⟩ hc
  have HR := Lib.hid (show ∀ w', Grows w w' → w'.cell? ⟨b, o, none⟩ = some (.slice (some ⟨g, 0, none⟩) n n) from fun w' hg => (hg.cell hb).trans hc)
  have hlt := hashP_lt key
  obtain ⟨H, hH⟩ : ∃ H, hashP key = H := ⟨_, rfl⟩
  have hcall : ∀ w', Calls Try.prog 39 #[.string ⟨key.toArray⟩] w' fun e w'' => e = .returned (.int .u32 (H : Int)) ∧ w'' = w' := fun w' => by
    rw [← hH]
    exact hash_any key hk w'
  have HH := Lib.hid hcall
  have HE := Lib.hid (show (cellOf n key : Int) = (H : Int) / 64 % (n : Int) from by unfold cellOf; rw [hH]; simp)
  rw [hH] at hlt
  have h1 : (H : Int) / 64 % (n : Int) = ((H / 64 % n : Nat) : Int) := by simp
  have h2 : H / 64 % n < n := Nat.mod_lt _ hn.1
  have HM := Lib.hid (show (¬ n = 0) ∧ IntKind.i64.wrap ((H : Int) / 64 % (n : Int)) = (H : Int) / 64 % (n : Int) ∧ wrap64 ((H : Int) / 64 % (n : Int)) = (H : Int) / 64 % (n : Int) from by
    rw [h1, IntWalk.i64_in _ (by omega), IntWalk.wrap64_in _ (by omega)]
    exact ⟨by omega, rfl, rfl⟩)
  have HN := Lib.hid (show IntKind.u32.wrap (n : Int) = (n : Int) ∧ (n : Int) % 4294967296 = (n : Int) from by
    rw [wrap_u32]
    have : n % 4294967296 = n := Nat.mod_eq_of_lt (by omega)
    exact ⟨by rw [this], by omega⟩)
  have HT := Lib.hid (show ((H : Int) / 64).tmod (n : Int) = (H : Int) / 64 % (n : Int) from Int.tmod_eq_emod_of_nonneg (by omega))
  have HQ := Lib.hid (show IntKind.u32.wrap ((H : Int) / 64) = (H : Int) / 64 from by
    rw [show (H : Int) / 64 = ((H / 64 : Nat) : Int) by simp, wrap_u32, Nat.mod_eq_of_lt (by omega)])
  have HU := Lib.hid (show IntKind.u32.wrap ((H : Int) / 64 % (n : Int)) = (H : Int) / 64 % (n : Int) from by
    rw [h1, wrap_u32, Nat.mod_eq_of_lt (by omega)])
  clear hc hcall h1 h2 hlt hn hH
  go_enter Try.func38, Try.ntmps38
  go_wp2_with (fail)
  refine wp_region_facts (E := Grows) [valFact (.string ⟨key.toArray⟩), valFact (.int .u32 (H : Int)), valFact (.int .u32 ((H : Int) / 64)), valFact (.pointer (some ⟨b, o, none⟩)), valFact (.pointer (some ⟨b, o, none⟩)), valFact (.pointer (some ⟨b, o, none⟩)), valFact (.slice (some ⟨g, 0, none⟩) n n), valFact (.int .i64 (n : Int)), valFact (.int .u32 (n : Int)), valFact (.int .u32 ((H : Int) / 64 % (n : Int))), valFact (.int .i64 ((H : Int) / 64 % (n : Int))), valFact (.int .i64 ((H : Int) / 64 % (n : Int)))] (by kernel_rfl) (by kernel_rfl) (fun _ _ _ => Grows.trans) (grows_drew _) ?_
  refine f_val (.string ⟨key.toArray⟩) (by rfl) ?_ ?_
  · intro w' hC; clear hC; go_simp
  simp only [Act.put, List.setIfInBounds_toArray, List.set_cons_zero, List.set_cons_succ]
  refine f_call 39 #[.string ⟨key.toArray⟩] (.int .u32 (H : Int)) (by rfl) (by intro w' hC; clear hC; go_simp) ?_ ?_
  · intro w' hC hks; exact (HH.out w').mono fun e w'' ⟨h1, h2⟩ => ⟨h1, by rw [h2]; exact Grows.refl _⟩
  simp only [Act.put, List.setIfInBounds_toArray, List.set_cons_zero, List.set_cons_succ]
  refine f_val (.int .u32 ((H : Int) / 64)) (by rfl) ?_ ?_
  · intro w' hC; have z0 := HQ.out; clear hC; go_simp
  simp only [Act.put, List.setIfInBounds_toArray, List.set_cons_zero, List.set_cons_succ]
  refine f_val (.pointer (some ⟨b, o, none⟩)) (by rfl) ?_ ?_
  · intro w' hC; clear hC; go_simp
  simp only [Act.put, List.setIfInBounds_toArray, List.set_cons_zero, List.set_cons_succ]
  refine f_val (.pointer (some ⟨b, o, none⟩)) (by rfl) ?_ ?_
  · intro w' hC; clear hC; go_simp
  simp only [Act.put, List.setIfInBounds_toArray, List.set_cons_zero, List.set_cons_succ]
  refine f_val (.pointer (some ⟨b, o, none⟩)) (by rfl) ?_ ?_
  · intro w' hC; clear hC; go_simp
  simp only [Act.put, List.setIfInBounds_toArray, List.set_cons_zero, List.set_cons_succ]
  refine f_val (.slice (some ⟨g, 0, none⟩) n n) (by rfl) ?_ ?_
  · intro w' hC; have z := HR.out w' hC; clear hC; go_simp
  simp only [Act.put, List.setIfInBounds_toArray, List.set_cons_zero, List.set_cons_succ]
  refine f_val (.int .i64 (n : Int)) (by rfl) ?_ ?_
  · intro w' hC; clear hC; go_simp
  simp only [Act.put, List.setIfInBounds_toArray, List.set_cons_zero, List.set_cons_succ]
  refine f_val (.int .u32 (n : Int)) (by rfl) ?_ ?_
  · intro w' hC; have z1 := HN.out.1; have z2 := HN.out.2; clear hC; go_simp
  simp only [Act.put, List.setIfInBounds_toArray, List.set_cons_zero, List.set_cons_succ]
  refine f_val (.int .u32 ((H : Int) / 64 % (n : Int))) (by rfl) ?_ ?_
  · intro w' hC; have z1 := HM.out.1; have z0 := HU.out; have z3 := HT.out; clear hC; go_simp
  simp only [Act.put, List.setIfInBounds_toArray, List.set_cons_zero, List.set_cons_succ]
  refine f_val (.int .i64 ((H : Int) / 64 % (n : Int))) (by rfl) ?_ ?_
  · intro w' hC; have z1 := HM.out.2.1; have z2 := HM.out.2.2; clear hC; go_simp
  simp only [Act.put, List.setIfInBounds_toArray, List.set_cons_zero, List.set_cons_succ]
  refine f_val (.int .i64 ((H : Int) / 64 % (n : Int))) (by rfl) ?_ ?_
  · intro w' hC; clear hC; go_simp
  simp only [Act.put, List.setIfInBounds_toArray, List.set_cons_zero, List.set_cons_succ]
  refine wpF_end ?_
  intro w1 hC hks
  have HCw1 := Lib.hid hC
  clear hC hks
  go_wp2_with (fail)
  go_ret
  exact ⟨by show Ending.returned (.int .i64 _) = _; rw [HE.out], HCw1.out⟩
set_option maxHeartbeats 1000000 in
theorem row_any (key : List UInt8) (hk : key.length ≤ 1000000000) {d : Nat} (w : World) :
    Calls Try.prog 28 #[.pointer (some ⟨d, 0, none⟩), .string ⟨key.toArray⟩] w fun e w' => e = .returned (.pointer (some ⟨d, rowOf key * 2, none⟩)) ∧ Grows w w' := by
  have hlt := hashP_lt key
  obtain ⟨H, hH⟩ : ∃ H, hashP key = H := ⟨_, rfl⟩
  have hcall : ∀ w', Calls Try.prog 39 #[.string ⟨key.toArray⟩] w' fun e w'' => e = .returned (.int .u32 (H : Int)) ∧ w'' = w' := fun w' => by
    rw [← hH]
    exact hash_any key hk w'
  have HH := Lib.hid hcall
  have hR : rowOf key = H % 64 := by unfold rowOf; rw [hH]
  rw [hR]
  obtain ⟨R, hRR⟩ : ∃ R, H % 64 = R := ⟨_, rfl⟩
  have hRlt : R < 64 := by rw [← hRR]; exact Nat.mod_lt _ (by omega)
  have HT := Lib.hid (show (H : Int).tmod 64 = (R : Int) from by rw [Int.tmod_eq_emod_of_nonneg (by omega), ← hRR]; simp)
  have HU := Lib.hid (show IntKind.u32.wrap (R : Int) = (R : Int) from by rw [wrap_u32, Nat.mod_eq_of_lt (by omega)])
  have HL := Lib.hid (show (0 : Int) ≤ (R : Int) ∧ (R : Int) < 64 from by omega)
  rw [hRR]
  clear hcall hR hRR hRlt hlt hH
  go_enter Try.func28, Try.ntmps28
  go_wp2_with (fail)
  refine wp_region_facts (E := Grows) [valFact (.pointer (some ⟨d, 0, none⟩)), valFact (.string ⟨key.toArray⟩), valFact (.int .u32 (H : Int)), valFact (.int .u32 ((R : Nat) : Int)), valFact (.pointer (some ⟨d, 0, none⟩)), valFact (.pointer (some ⟨d, 0, none⟩)), valFact (.pointer (some ⟨d, R * 2, none⟩)), valFact (.pointer (some ⟨d, R * 2, none⟩))] (by kernel_rfl) (by kernel_rfl) (fun _ _ _ => Grows.trans) (grows_drew _) ?_
  refine f_val (.pointer (some ⟨d, 0, none⟩)) (by rfl) ?_ ?_
  · intro w' hC; clear hC; go_simp
  simp only [Act.put, List.setIfInBounds_toArray, List.set_cons_zero, List.set_cons_succ]
  refine f_val (.string ⟨key.toArray⟩) (by rfl) ?_ ?_
  · intro w' hC; clear hC; go_simp
  simp only [Act.put, List.setIfInBounds_toArray, List.set_cons_zero, List.set_cons_succ]
  refine f_call 39 #[.string ⟨key.toArray⟩] (.int .u32 (H : Int)) (by rfl) (by intro w' hC; clear hC; go_simp) ?_ ?_
  · intro w' hC hks; exact (HH.out w').mono fun e w'' ⟨h1, h2⟩ => ⟨h1, by rw [h2]; exact Grows.refl _⟩
  simp only [Act.put, List.setIfInBounds_toArray, List.set_cons_zero, List.set_cons_succ]
  refine f_val (.int .u32 ((R : Nat) : Int)) (by rfl) ?_ ?_
  · intro w' hC; have z0 := HU.out; have z1 := HT.out; clear hC; go_simp; first | done | (rw [z1]; done) | simp [z1, z0]
  simp only [Act.put, List.setIfInBounds_toArray, List.set_cons_zero, List.set_cons_succ]
  refine f_val (.pointer (some ⟨d, 0, none⟩)) (by rfl) ?_ ?_
  · intro w' hC; clear hC; go_simp
  simp only [Act.put, List.setIfInBounds_toArray, List.set_cons_zero, List.set_cons_succ]
  refine f_val (.pointer (some ⟨d, 0, none⟩)) (by rfl) ?_ ?_
  · intro w' hC; clear hC; go_simp
  simp only [Act.put, List.setIfInBounds_toArray, List.set_cons_zero, List.set_cons_succ]
  refine f_val (.pointer (some ⟨d, R * 2, none⟩)) (by rfl) ?_ ?_
  · intro w' hC; have z0 := HL.out.1; have z1 := HL.out.2; clear hC; go_simp
  simp only [Act.put, List.setIfInBounds_toArray, List.set_cons_zero, List.set_cons_succ]
  refine f_val (.pointer (some ⟨d, R * 2, none⟩)) (by rfl) ?_ ?_
  · intro w' hC; clear hC; go_simp
  simp only [Act.put, List.setIfInBounds_toArray, List.set_cons_zero, List.set_cons_succ]
  refine wpF_end ?_
  intro w1 hC hks
  have HCw1 := Lib.hid hC
  clear hC hks
  go_wp2_with (fail)
  go_ret
  exact ⟨rfl, HCw1.out⟩
theorem key_eq (a b : List UInt8) : ((⟨a.toArray⟩ : ByteArray) == ⟨b.toArray⟩) = (a == b) := by
  have h1 : ((⟨a.toArray⟩ : ByteArray) == ⟨b.toArray⟩) = (a.toArray == b.toArray) := rfl
  rw [h1]
  simp
set_option maxHeartbeats 1000000 in
theorem eqkey_any (p : Pl) (key : List UInt8) {kb : Nat} (w : World) (hkb : w.cell? ⟨kb, 0, none⟩ = some (.string ⟨key.toArray⟩)) :
    Calls Try.prog 47 #[plV p, .pointer (some ⟨kb, 0, none⟩)] w fun e w' => e = .returned (.bool (p.key == key)) ∧ Grows w w' := by
  have hb := World.block_lt_of_cell? w ⟨kb, 0, none⟩ hkb
  obtain ⟨p0, p1, p2, p3, p4⟩ := p
  show Calls _ _ #[.agg #[.int .i64 p0, .int .i64 p1, .string ⟨p2.toArray⟩, .int .i64 p3, .int .i64 p4], _] _ _
  dsimp only
  have hg1 := grows_alloc w (.cells #[.int .i64 p0, .int .i64 p1, .string ⟨p2.toArray⟩, .int .i64 p3, .int .i64 p4] 32)
  have hm1 := Whole.made w 32 #[.int .i64 p0, .int .i64 p1, .string ⟨p2.toArray⟩, .int .i64 p3, .int .i64 p4]
  obtain ⟨W1, hW1⟩ : ∃ W1, w.alloc (.cells #[.int .i64 p0, .int .i64 p1, .string ⟨p2.toArray⟩, .int .i64 p3, .int .i64 p4] 32) = W1 := ⟨_, rfl⟩
  rw [hW1] at hg1 hm1
  have c2 := hm1.cell 2
  have ck := (hg1.cell (p := ⟨kb, 0, none⟩) hb).trans hkb
  simp only [List.getElem?_toArray, List.getElem?_cons_zero, List.getElem?_cons_succ] at c2
  have HG := Lib.hid hg1
  have HE := Lib.hid (key_eq p2 key)
  clear hg1 hm1 hkb
  go_enter Try.func47, Try.ntmps47
  go_wp2_with (first | rw [hW1] | fail)
  go_ret
  exact ⟨by first | rw [HE.out] | (rw [← HE.out]; rfl), HG.out⟩
end Go.Proofs.Ytadgbobemmfjoaa
