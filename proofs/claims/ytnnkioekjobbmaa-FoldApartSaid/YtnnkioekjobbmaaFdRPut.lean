/-
  The document's answer to fold: put.
-/
import Derived.Test.YtnnkioekjobbmaaFdKeep
import Derived.Test.YtnnkioekjobbmaaFactsTail
import Derived.LoopTactic
namespace Go.Proofs.Ytnnkioekjobbmaa
open Go.RowKit
set_option linter.unusedVariables false
set_option linter.unusedSimpArgs false
attribute [local irreducible] wpF

theorem Pls.first {w : World} {A : Option Addr} {n c i : Nat} {l : List Fp} (h : Pls w A n c l) (hi : i ≤ n) : Pls w A i c (l.take i) := by
  have hl := h.len
  have hc := h.cap
  refine ⟨by rw [List.length_take]; omega, by omega, h.bare, ?_⟩
  have hr := h.row.first (k := 5 * i) (by omega)
  have e : (l.flatMap plE).take (5 * i) = (l.take i).flatMap plE := by
    rw [← List.take_append_drop i l, List.flatMap_append, List.take_left' (by rw [flat_len5, List.length_take]; omega)]
    rw [List.take_append_drop]
  rwa [e] at hr
theorem Pls.behind {w : World} {A : Option Addr} {n c i : Nat} {l : List Fp} (h : Pls w A n c l) (hi : i ≤ n) : Pls w (if c = i then A else A.map (·.add (i * 5))) (n - i) (c - i) (l.drop i) := by
  have hl := h.len
  have hc := h.cap
  refine ⟨by rw [List.length_drop]; omega, by omega, fun e => ?_, ?_⟩
  · split at e
    · omega
    · rcases A with _ | a
      · have := h.bare rfl; omega
      · cases e
  · have hr := h.row.behind (k := 5 * i) (cap := 5 * c) (by omega) (by omega)
    have e : (l.flatMap plE).drop (5 * i) = (l.drop i).flatMap plE := by
      rw [← List.take_append_drop i l, List.flatMap_append, List.drop_left' (by rw [flat_len5, List.length_take]; omega)]
      rw [List.take_append_drop]
    rw [e] at hr
    rw [show 5 * (n - i) = 5 * n - 5 * i by omega, Nat.mul_comm i 5]
    by_cases hci : c = i
    · rw [if_pos (by omega)] at hr
      rw [if_pos hci]
      exact hr
    · rw [if_neg (by omega)] at hr
      rw [if_neg hci]
      exact hr
theorem cutF {w : World} {A : Option Addr} {n c : Nat} {l : List Fp} (h : Pls w A n c l) {i : Nat} (hi : i ≤ n) (hn : n ≤ 1000000) :
    (∀ w' : World, (Instr.sliceAt 26 (.slice A n c) none (some (.int .i64 (i : Int))) none).run Try.prog w' = .ok (.slice A i c) w') ∧
      ∃ (A2 : Option Addr) (c3 : Nat), (∀ w' : World, (Instr.sliceAt 26 (.slice A n c) (some (.int .i64 (i : Int))) none none).run Try.prog w' = .ok (.slice A2 (n - i) c3) w') ∧ ∀ w'', Pls w'' A n c l → Pls w'' A2 (n - i) c3 (l.drop i) := by
  have hcap := h.cap
  have hlen := h.len
  rcases A with _ | ad
  · have hc := h.bare rfl
    subst hc
    obtain rfl : n = 0 := by omega
    obtain rfl : i = 0 := by omega
    exact ⟨fun w' => by go_simp, none, 0, fun w' => by go_simp, fun w'' hu => by rwa [List.drop_zero]⟩
  · have k0 : (0 : Int) ≤ (i : Int) := by omega
    have k1 : (i : Int) ≤ (n : Int) := by omega
    have k2 : (n : Int) ≤ (c : Int) := by omega
    have k3 : (i : Int) ≤ (c : Int) := by omega
    have hs0 : ∀ w', (Instr.sliceAt 26 (.slice (some ad) n c) (some (.int .i64 (i : Int))) none none).run Try.prog w' = .ok (.slice (if c = i then some ad else some (ad.add (i * 5))) (n - i) (c - i)) w' := fun w' => by go_simp
    exact ⟨fun w' => by go_simp, if c = i then some ad else some (ad.add (i * 5)), c - i, hs0, fun w'' hu => hu.behind hi⟩
theorem pls_keepF {w w' : World} {A : Option Addr} {n c : Nat} {l : List Fp} (h : Pls w A n c l) (hk : Keep5 w.heap.size w w') : Pls w' A n c l := by
  refine ⟨h.len, h.cap, h.bare, h.row.len, fun j v hj => ?_⟩
  obtain ⟨ad, e1, e2, e3⟩ := h.row.spot j v hj
  refine ⟨ad, e1, Nat.lt_of_lt_of_le e2 hk.sp.size, ?_⟩
  have hb := hk.sp.same _ e2 (by omega)
  unfold World.cell? at e3 ⊢
  rw [add_block] at *
  rw [hb]
  exact e3
/-- A row, as an append reads it. -/
theorem lies_of {w : World} {A : Option Addr} {n c : Nat} {l : List Fp} (h : Pls w A n c l) (hp : 0 < n) : ∃ ad, A = some ad ∧ ∀ (j : Nat) (u : Value), (l.flatMap plE)[j]? = some u → w.cell? (ad.add j) = some u := by
  obtain ⟨ad, x, hA, _⟩ := h.at hp
  subst hA
  refine ⟨ad, rfl, fun j u hu => ?_⟩
  obtain ⟨ad', e, _, h2⟩ := h.row.spot _ _ hu
  injection e with e
  subst e
  exact h2
theorem cell_litF {w : World} {g t : Nat} {p0 p1 p3 p4 : Int} {p2 : List UInt8} (h : Whole w g t #[.int .i64 p0, .int .i64 p1, .string ⟨p2.toArray⟩, .int .i64 p3, .int .i64 p4]) : ∀ (t : Nat) (u : Value), (([((p0, ⟨p1, p2, p3, p4⟩) : Fp)]).flatMap plE)[t]? = some u → w.cell? ((⟨g, 0, none⟩ : Addr).add t) = some u := fun t u hu => by
  rw [show (⟨g, 0, none⟩ : Addr).add t = ⟨g, t, none⟩ by unfold Addr.add; split <;> simp_all, h.cell t, List.getElem?_toArray]
  exact hu
set_option maxRecDepth 100000 in
set_option maxHeartbeats 8000000 in
theorem rput_any {A : Option Addr} {n c : Nat} {l : List Fp} {w : World} (h : Pls w A n c l) (hn : n < 900000) (p : Fp) :
    Calls Try.prog 20 #[.slice A n c, plV p] w fun e w' => ∃ A' n' c', e = .returned (.slice A' n' c') ∧ OwnPl w' w.heap.size A' n' c' (rput l p) ∧ Grows w w' := by
  obtain ⟨p0, ⟨p1, p2, p3, p4⟩⟩ := p
  unfold plV
  dsimp only
  have hg0 := grows_alloc w (.cells #[.int .i64 p0, .int .i64 p1, .string ⟨p2.toArray⟩, .int .i64 p3, .int .i64 p4] 35)
  have hm0 := Whole.made w 35 #[.int .i64 p0, .int .i64 p1, .string ⟨p2.toArray⟩, .int .i64 p3, .int .i64 p4]
  obtain ⟨W0, hW0⟩ : ∃ W0, w.alloc (.cells #[.int .i64 p0, .int .i64 p1, .string ⟨p2.toArray⟩, .int .i64 p3, .int .i64 p4] 35) = W0 := ⟨_, rfl⟩
  rw [hW0] at hg0 hm0
  obtain ⟨pb, hpb⟩ : ∃ pb, w.heap.size = pb := ⟨_, rfl⟩
  rw [hpb] at hm0
  have HLL := Lib.hid (show l.length = n ∧ n < 900000 from ⟨h.len, hn⟩)
  have H2 := Lib.hid (show Grows w W0 ∧ Whole W0 pb 35 #[.int .i64 p0, .int .i64 p1, .string ⟨p2.toArray⟩, .int .i64 p3, .int .i64 p4] ∧ Pls W0 A n c l from ⟨hg0, hm0, h.grow hg0⟩)
  clear h hn hg0 hm0
  go_enter Try.func20, Try.ntmps20
  go_wp2_with (first | rw [hW0] | fail)
  clear hW0 hpb
  go_loopw [5] (fun vi wr => ∃ (i : Nat), i ≤ n ∧ vi = .int .i64 (i : Int) ∧ Hid (∀ (j : Nat) (x : Fp), j < i → l[j]? = some x → bytesBefore x.2.key p2 = true) ∧ Hid (Grows W0 wr)) (fun vi _ => n - (intOf vi).toNat)
  case atStart => exact ⟨0, Nat.zero_le _, rfl, Lib.hid (fun j x hj => by omega), Lib.hid (Grows.refl _)⟩
  case round =>
    obtain ⟨i, hi, rfl, HPRE, HG⟩ := hrel
    have HROW := Lib.hid (H2.out.2.2.grow HG.out)
    by_cases hlt : i < n
    · obtain ⟨ad, ⟨x0, ⟨x1, x2, x3, x4⟩⟩, rfl, hy, hbl, hcy⟩ := Pls.at HROW.out hlt
      dsimp only at hcy
      have HCY := Lib.hid hcy
      have HY := Lib.hid hy
      have HPB := Lib.hid (show ∀ w', Grows wr w' → w'.cell? ⟨pb, 2, none⟩ = some (.string ⟨p2.toArray⟩) from fun w' hg => by
        have h2 := (Grows.trans HG.out hg).whole H2.out.2.1
        rw [h2.cell]; rfl)
      have k0 : (0 : Int) ≤ (i : Int) := by omega
      have k1 : (i : Int) < (n : Int) := by omega
      clear hy hbl hcy
      rcases hr : bytesBefore x2 p2 with _ | _
      · have HKL := Lib.hid ((fless x2 p2).trans hr)
        have HPOST := Lib.hid (show ∀ y, l[i]? = some y → bytesBefore y.2.key p2 = false from fun y hy => by
          rw [HY.out] at hy
          injection hy with hy
          rw [← hy]
          exact hr)
        clear hr
        go_wp2_with (fail)
        refine wp_region_facts (E := Grows) [valFact (.int .i64 (i : Int)), valFact (.slice (some ad) n c), valFact (.int .i64 (n : Int)), valFact (.bool true), valFact (.bool true), valFact (.slice (some ad) n c), valFact (.int .i64 (i : Int)), valFact (.pointer (some (ad.add (i * 5)))), valFact (.pointer (some { block := (ad.add (i * 5)).block, off := (ad.add (i * 5)).off + 1 })), valFact (.pointer (some { block := (ad.add (i * 5)).block, off := (ad.add (i * 5)).off + 2 })), valFact (.string ⟨x2.toArray⟩), valFact (.pointer (some ⟨pb, 1, none⟩)), valFact (.pointer (some ⟨pb, 2, none⟩)), valFact (.string ⟨p2.toArray⟩), valFact (.bool false), valFact (.bool false)] (by kernel_rfl) (by kernel_rfl) (fun _ _ _ => Grows.trans) (grows_drew _) ?_
        refine f_val (.int .i64 (i : Int)) (by rfl) ?_ ?_
        · intro w' hC; clear hC; go_simp
        simp only [Act.put, List.setIfInBounds_toArray, List.set_cons_zero, List.set_cons_succ]
        refine f_val (.slice (some ad) n c) (by rfl) ?_ ?_
        · intro w' hC; clear hC; go_simp
        simp only [Act.put, List.setIfInBounds_toArray, List.set_cons_zero, List.set_cons_succ]
        refine f_val (.int .i64 (n : Int)) (by rfl) ?_ ?_
        · intro w' hC; clear hC; go_simp
        simp only [Act.put, List.setIfInBounds_toArray, List.set_cons_zero, List.set_cons_succ]
        refine f_val (.bool true) (by rfl) ?_ ?_
        · intro w' hC; clear hC; go_simp
        simp only [Act.put, List.setIfInBounds_toArray, List.set_cons_zero, List.set_cons_succ]
        refine f_val (.bool true) (by rfl) ?_ ?_
        · intro w' hC; clear hC; go_simp
        simp only [Act.put, List.setIfInBounds_toArray, List.set_cons_zero, List.set_cons_succ]
        refine f_val (.slice (some ad) n c) (by rfl) ?_ ?_
        · intro w' hC; clear hC; go_simp
        simp only [Act.put, List.setIfInBounds_toArray, List.set_cons_zero, List.set_cons_succ]
        refine f_val (.int .i64 (i : Int)) (by rfl) ?_ ?_
        · intro w' hC; clear hC; go_simp
        simp only [Act.put, List.setIfInBounds_toArray, List.set_cons_zero, List.set_cons_succ]
        refine f_val (.pointer (some (ad.add (i * 5)))) (by rfl) ?_ ?_
        · intro w' hC; clear hC; go_simp
        simp only [Act.put, List.setIfInBounds_toArray, List.set_cons_zero, List.set_cons_succ]
        refine f_val (.pointer (some { block := (ad.add (i * 5)).block, off := (ad.add (i * 5)).off + 1 })) (by rfl) ?_ ?_
        · intro w' hC; clear hC; go_simp
        simp only [Act.put, List.setIfInBounds_toArray, List.set_cons_zero, List.set_cons_succ]
        refine f_val (.pointer (some { block := (ad.add (i * 5)).block, off := (ad.add (i * 5)).off + 2 })) (by rfl) ?_ ?_
        · intro w' hC; clear hC; go_simp
        simp only [Act.put, List.setIfInBounds_toArray, List.set_cons_zero, List.set_cons_succ]
        refine f_val (.string ⟨x2.toArray⟩) (by rfl) ?_ ?_
        · intro w' hC; obtain ⟨c0, c1, c2, c3, c4⟩ := HCY.out w' hC; clear hC; go_simp
        simp only [Act.put, List.setIfInBounds_toArray, List.set_cons_zero, List.set_cons_succ]
        refine f_val (.pointer (some ⟨pb, 1, none⟩)) (by rfl) ?_ ?_
        · intro w' hC; clear hC; go_simp
        simp only [Act.put, List.setIfInBounds_toArray, List.set_cons_zero, List.set_cons_succ]
        refine f_val (.pointer (some ⟨pb, 2, none⟩)) (by rfl) ?_ ?_
        · intro w' hC; clear hC; go_simp
        simp only [Act.put, List.setIfInBounds_toArray, List.set_cons_zero, List.set_cons_succ]
        refine f_val (.string ⟨p2.toArray⟩) (by rfl) ?_ ?_
        · intro w' hC; have z2 := HPB.out w' hC; clear hC; go_simp
        simp only [Act.put, List.setIfInBounds_toArray, List.set_cons_zero, List.set_cons_succ]
        refine f_val (.bool false) (by rfl) ?_ ?_
        · intro w' hC; have z := HKL.out; clear hC; go_simp
        simp only [Act.put, List.setIfInBounds_toArray, List.set_cons_zero, List.set_cons_succ]
        refine f_val (.bool false) (by rfl) ?_ ?_
        · intro w' hC; clear hC; go_simp
        simp only [Act.put, List.setIfInBounds_toArray, List.set_cons_zero, List.set_cons_succ]
        refine wpF_end ?_
        intro w4 hC hks
        have HCw4 := Lib.hid hC
        clear hC hks
        have HROW := Lib.hid (HROW.out.grow HCw4.out)
        have HG := Lib.hid (Grows.trans HG.out HCw4.out)
        clear HCY HPB HCw4
        obtain ⟨we, hwe⟩ : ∃ V, w4 = V := ⟨_, rfl⟩
        subst hwe
        rcases heq : (x2 == p2) with _ | _
        · have HEQ := Lib.hid heq
          clear heq
          obtain ⟨hs1, A2, c3, hs2, hdk⟩ := cutF (HROW.out) hi (by have := HLL.out; omega)
          have HS1 := Lib.hid hs1
          have HREST := Lib.hid (hdk _ HROW.out)
          have hs2w := hs2
          obtain ⟨m2, hm2⟩ : ∃ k, n - i = k := ⟨_, rfl⟩
          rw [hm2] at hs2 HREST hs2w
          have HRM := Lib.hid (show m2 = n - i from hm2.symm)
          obtain ⟨a2, y, e2, hy2, _, hcy2⟩ := Pls.at HREST.out (i := 0) (by have := HRM.out; omega)
          subst e2
          have hyx : y = (x0, ⟨x1, x2, x3, x4⟩) := by
            rw [List.getElem?_drop, Nat.add_zero, HY.out] at hy2
            injection hy2 with hy2
            exact hy2.symm
          subst hyx
          rw [Nat.zero_mul, fadd0] at hcy2
          have HX2 := Lib.hid (show ∀ w', Grows w4 w' → w'.cell? { block := a2.block, off := a2.off + 2 } = some (.string ⟨x2.toArray⟩) from fun w' hg => (hcy2 w' hg).2.2.1)
          have HPB5 := Lib.hid (show ∀ w', Grows w4 w' → w'.cell? ⟨pb, 2, none⟩ = some (.string ⟨p2.toArray⟩) from fun w' hg => by
            have h2 := (Grows.trans HG.out hg).whole H2.out.2.1
            rw [h2.cell]; rfl)
          have hm20 : 0 < m2 := by have := HRM.out; omega
          have HM2 := Lib.hid hm20
          have hsl := hs2 w4
          have hdrop : l.drop i = (x0, ⟨x1, x2, x3, x4⟩) :: l.drop (i + 1) := by
            have hil := (List.getElem?_eq_some_iff.1 HY.out).1
            rw [List.drop_eq_getElem_cons hil]
            congr 1
            have h1 := HY.out
            rw [List.getElem?_eq_getElem hil] at h1
            injection h1
          have HDR := Lib.hid hdrop
          clear hs1 hs2 hm2 hdk hs2w hy2 hcy2 hm20 hdrop
          have HRES := Lib.hid (show rput l (p0, ⟨p1, p2, p3, p4⟩) = l.take i ++ [((p0, ⟨p1, p2, p3, p4⟩) : Fp)] ++ l.drop i from by
            have e := (show i = slot p2 l from slot_eq (by have := HLL.out; omega) (fun j x hj hx => HPRE.out j x hj hx) HPOST.out)
            unfold rput behind
            dsimp only
            rw [← e, HDR.out]
            dsimp only
            rw [if_neg (by have := HEQ.out; simpa using this)])
          go_wp2_with (fail)
          clear hsl
          refine wp_region_facts (E := Grows) [valFact (.slice (some a2) m2 c3), valFact (.int .i64 (m2 : Int)), valFact (.bool true), valFact (.bool true), valFact (.slice (some a2) m2 c3), valFact (.pointer (some a2)), valFact (.pointer (some { block := a2.block, off := a2.off + 1 })), valFact (.pointer (some { block := a2.block, off := a2.off + 2 })), valFact (.string ⟨x2.toArray⟩), valFact (.pointer (some ⟨pb, 1, none⟩)), valFact (.pointer (some ⟨pb, 2, none⟩)), valFact (.string ⟨p2.toArray⟩), valFact (.bool false), valFact (.bool false)] (by kernel_rfl) (by kernel_rfl) (fun _ _ _ => Grows.trans) (grows_drew _) ?_
          refine f_val (.slice (some a2) m2 c3) (by rfl) ?_ ?_
          · intro w' hC; clear hC; go_simp
          simp only [Act.put, List.setIfInBounds_toArray, List.set_cons_zero, List.set_cons_succ]
          refine f_val (.int .i64 (m2 : Int)) (by rfl) ?_ ?_
          · intro w' hC; clear hC; go_simp
          simp only [Act.put, List.setIfInBounds_toArray, List.set_cons_zero, List.set_cons_succ]
          refine f_val (.bool true) (by rfl) ?_ ?_
          · intro w' hC; have k0 := HM2.out; clear hC; go_simp
          simp only [Act.put, List.setIfInBounds_toArray, List.set_cons_zero, List.set_cons_succ]
          refine f_val (.bool true) (by rfl) ?_ ?_
          · intro w' hC; clear hC; go_simp
          simp only [Act.put, List.setIfInBounds_toArray, List.set_cons_zero, List.set_cons_succ]
          refine f_val (.slice (some a2) m2 c3) (by rfl) ?_ ?_
          · intro w' hC; clear hC; go_simp
          simp only [Act.put, List.setIfInBounds_toArray, List.set_cons_zero, List.set_cons_succ]
          refine f_val (.pointer (some a2)) (by rfl) ?_ ?_
          · intro w' hC; have k0 := HM2.out; clear hC; go_simp; try (intro hz; exfalso; omega)
          simp only [Act.put, List.setIfInBounds_toArray, List.set_cons_zero, List.set_cons_succ]
          refine f_val (.pointer (some { block := a2.block, off := a2.off + 1 })) (by rfl) ?_ ?_
          · intro w' hC; clear hC; go_simp
          simp only [Act.put, List.setIfInBounds_toArray, List.set_cons_zero, List.set_cons_succ]
          refine f_val (.pointer (some { block := a2.block, off := a2.off + 2 })) (by rfl) ?_ ?_
          · intro w' hC; clear hC; go_simp
          simp only [Act.put, List.setIfInBounds_toArray, List.set_cons_zero, List.set_cons_succ]
          refine f_val (.string ⟨x2.toArray⟩) (by rfl) ?_ ?_
          · intro w' hC; have z2 := HX2.out w' hC; clear hC; go_simp
          simp only [Act.put, List.setIfInBounds_toArray, List.set_cons_zero, List.set_cons_succ]
          refine f_val (.pointer (some ⟨pb, 1, none⟩)) (by rfl) ?_ ?_
          · intro w' hC; clear hC; go_simp
          simp only [Act.put, List.setIfInBounds_toArray, List.set_cons_zero, List.set_cons_succ]
          refine f_val (.pointer (some ⟨pb, 2, none⟩)) (by rfl) ?_ ?_
          · intro w' hC; clear hC; go_simp
          simp only [Act.put, List.setIfInBounds_toArray, List.set_cons_zero, List.set_cons_succ]
          refine f_val (.string ⟨p2.toArray⟩) (by rfl) ?_ ?_
          · intro w' hC; have z2 := HPB5.out w' hC; clear hC; go_simp
          simp only [Act.put, List.setIfInBounds_toArray, List.set_cons_zero, List.set_cons_succ]
          refine f_val (.bool false) (by rfl) ?_ ?_
          · intro w' hC; have z := HEQ.out; clear hC; go_simp
          simp only [Act.put, List.setIfInBounds_toArray, List.set_cons_zero, List.set_cons_succ]
          refine f_val (.bool false) (by rfl) ?_ ?_
          · intro w' hC; clear hC; go_simp
          simp only [Act.put, List.setIfInBounds_toArray, List.set_cons_zero, List.set_cons_succ]
          refine wpF_end ?_
          intro w5 hC hks
          have HCw5 := Lib.hid hC
          clear hC hks
          have HROW5 := Lib.hid (HROW.out.grow HCw5.out)
          have HG5 := Lib.hid (Grows.trans HG.out HCw5.out)
          have HREST5 := Lib.hid (HREST.out.grow HCw5.out)
          have HTK := Lib.hid (show ∀ w', Keep5 w5.heap.size w5 w' → Pls w' (some ad) i c (l.take i) from fun w' hC => (pls_keepF (HROW5.out) hC).first hi)
          have HDK := Lib.hid (show ∀ w', Keep5 w5.heap.size w5 w' → Pls w' (some a2) m2 c3 (l.drop i) from fun w' hC => pls_keepF (HREST5.out) hC)
          have HLN := Lib.hid (show (((l.take i).length = i ∧ 0 + i ≤ 1000000) ∧ (([((p0, ⟨p1, p2, p3, p4⟩) : Fp)]).length = 1 ∧ i + 1 ≤ 1000000) ∧ ((l.drop i).length = m2 ∧ i + 1 + m2 ≤ 1000000)) from by
            have h1 := HLL.out
            have h2 := HREST5.out.len
            have h3 := HRM.out
            exact ⟨⟨by rw [List.length_take]; omega, by omega⟩, ⟨rfl, by omega⟩, ⟨h2, by omega⟩⟩)
          have HP5 := Lib.hid (show ∀ w', Keep5 w5.heap.size w5 w' → w'.cell? ⟨pb, 0, none⟩ = some (.int .i64 p0) ∧ w'.cell? ⟨pb, 1, none⟩ = some (.int .i64 p1) ∧ w'.cell? ⟨pb, 2, none⟩ = some (.string ⟨p2.toArray⟩) ∧ w'.cell? ⟨pb, 3, none⟩ = some (.int .i64 p3) ∧ w'.cell? ⟨pb, 4, none⟩ = some (.int .i64 p4) from fun w' hC => by
            have h1 := HG5.out.whole H2.out.2.1
            have h2 : Whole w' pb 35 #[.int .i64 p0, .int .i64 p1, .string ⟨p2.toArray⟩, .int .i64 p3, .int .i64 p4] := (hC.sp.same pb h1.lt (by have := h1.lt; omega)).trans h1
            refine ⟨?_, ?_, ?_, ?_, ?_⟩ <;> (rw [h2.cell]; rfl))
          go_wp2_with (fail)
          refine wp_region_jobs (G := Grows) (E := Keep5 (w5.heap.size)) 10 [cJob (w5.heap.size) Nat 0 (fun g => .slice (some ⟨g, 0, none⟩) 0 0) (fun g w' => Chain (w5.heap.size) [] 0 (some ⟨g, 0, none⟩) 0 w') (fun _ _ _ h hg => h.grow hg), vJob (w5.heap.size) (.slice (some ad) n c), vJob (w5.heap.size) (.int .i64 (i : Int)), vJob (w5.heap.size) (.slice (some ad) i c), cJob (w5.heap.size) (Option Addr × Nat) (none, 0) (fun p => .slice p.1 (i) p.2) (fun p w' => Chain (w5.heap.size) (l.take i) (i) p.1 p.2 w') (fun _ _ _ h hg => h.grow hg), vJob (w5.heap.size) (.agg #[.int .i64 p0, .int .i64 p1, .string ⟨p2.toArray⟩, .int .i64 p3, .int .i64 p4]), mJob (w5.heap.size) (35) (#[.int .i64 p0, .int .i64 p1, .string ⟨p2.toArray⟩, .int .i64 p3, .int .i64 p4]) rfl, cJob (w5.heap.size) (Option Addr × Nat) (none, 0) (fun p => .slice p.1 (i + 1) p.2) (fun p w' => Chain (w5.heap.size) (l.take i ++ [((p0, ⟨p1, p2, p3, p4⟩) : Fp)]) (i + 1) p.1 p.2 w') (fun _ _ _ h hg => h.grow hg), vJob (w5.heap.size) (.slice (some a2) m2 c3), cJob (w5.heap.size) (Option Addr × Nat) (none, 0) (fun p => .slice p.1 (i + 1 + m2) p.2) (fun p w' => Chain (w5.heap.size) (l.take i ++ [((p0, ⟨p1, p2, p3, p4⟩) : Fp)] ++ l.drop i) (i + 1 + m2) p.1 p.2 w') (fun _ _ _ h hg => h.grow hg)] [(true, true), (false, false), (false, false), (false, false), (true, true), (false, false), (false, false), (true, true), (false, false), (true, true)] (fun _ => True) rfl mixed (by kernel_rfl) (fun _ _ => Keep5.ofGrows) (fun _ _ _ => Keep5.trans) (keep5_drew _ _) trivial (fun _ _ h _ => h) ?_
          simp only [List.take_succ_cons, List.take_zero, List.drop_succ_cons, List.drop_zero]
          refine ke_cls (by rfl) (fun w' hC hcls hks => ⟨w'.heap.size, w'.alloc (.cells #[] 35), by go_simp, Keep5.ofGrows (grows_alloc _ _), ⟨World.ownsRow_lit w' #[] 0 hC.sp.size (Nat.zero_le _) rfl, fun _ => rfl, by simp⟩⟩) ?_
          intro g1
          dsimp only
          simp only [Act.put, List.setIfInBounds_toArray, List.set_cons_zero, List.set_cons_succ]
          refine ke_val (.slice (some ad) n c) (by rfl) ?_ ?_
          · intro w' hC; clear hC; go_simp
          simp only [Act.put, List.setIfInBounds_toArray, List.set_cons_zero, List.set_cons_succ]
          refine ke_val (.int .i64 (i : Int)) (by rfl) ?_ ?_
          · intro w' hC; clear hC; go_simp
          simp only [Act.put, List.setIfInBounds_toArray, List.set_cons_zero, List.set_cons_succ]
          refine ke_val (.slice (some ad) i c) (by rfl) ?_ ?_
          · intro w' hC; have z := HS1.out w'; clear hC; go_simp
          simp only [Act.put, List.setIfInBounds_toArray, List.set_cons_zero, List.set_cons_succ]
          refine ke_cls (by rfl) (fun w' hC hcls hks => ?_) ?_
          · obtain ⟨A', c', w2, hr, hc2, hk2⟩ := chain_append (ty := 26) hcls (lies_of (HTK.out w' hC)) HLN.out.1 hC.sp.size (k := i) (Nat.zero_add i) (l3 := l.take i) rfl
            exact ⟨(A', c'), w2, exec_appF rfl rfl rfl hr, hk2, hc2⟩
          rintro ⟨B2, d2⟩
          dsimp only
          simp only [Act.put, List.setIfInBounds_toArray, List.set_cons_zero, List.set_cons_succ]
          refine ke_val (.agg #[.int .i64 p0, .int .i64 p1, .string ⟨p2.toArray⟩, .int .i64 p3, .int .i64 p4]) (by rfl) ?_ ?_
          · intro w' hC; obtain ⟨z0, z1, z2, z3, z4⟩ := HP5.out w' hC; clear hC; go_simp
          simp only [Act.put, List.setIfInBounds_toArray, List.set_cons_zero, List.set_cons_succ]
          refine ke_made (35) (#[.int .i64 p0, .int .i64 p1, .string ⟨p2.toArray⟩, .int .i64 p3, .int .i64 p4]) rfl (by rfl) ?_ ?_
          · intro w' hC; clear hC; go_simp
          intro g2
          simp only [Act.put, List.setIfInBounds_toArray, List.set_cons_zero, List.set_cons_succ]
          refine ke_cls (by rfl) (fun w' hC hcls hks => ?_) ?_
          · obtain ⟨A', c', w2, hr, hc2, hk2⟩ := chain_append (ty := 26) hcls (l2 := [((p0, ⟨p1, p2, p3, p4⟩) : Fp)]) (fun _ => ⟨⟨g2, 0, none⟩, rfl, fun t u hu => cell_litF (Known.get hks 0 rfl rfl) t u hu⟩) HLN.out.2.1 hC.sp.size (k := i + 1) rfl (l3 := l.take i ++ [((p0, ⟨p1, p2, p3, p4⟩) : Fp)]) rfl
            exact ⟨(A', c'), w2, exec_appF rfl rfl rfl hr, hk2, hc2⟩
          rintro ⟨B3, d3⟩
          dsimp only
          simp only [Act.put, List.setIfInBounds_toArray, List.set_cons_zero, List.set_cons_succ]
          refine ke_val (.slice (some a2) m2 c3) (by rfl) ?_ ?_
          · intro w' hC; clear hC; go_simp
          simp only [Act.put, List.setIfInBounds_toArray, List.set_cons_zero, List.set_cons_succ]
          refine ke_cls (by rfl) (fun w' hC hcls hks => ?_) ?_
          · obtain ⟨A', c', w2, hr, hc2, hk2⟩ := chain_append (ty := 26) hcls (lies_of (HDK.out w' hC)) HLN.out.2.2 hC.sp.size (k := i + 1 + m2) rfl (l3 := l.take i ++ [((p0, ⟨p1, p2, p3, p4⟩) : Fp)] ++ l.drop i) rfl
            exact ⟨(A', c'), w2, exec_appF rfl rfl rfl hr, hk2, hc2⟩
          rintro ⟨B5, d5⟩
          dsimp only
          simp only [Act.put, List.setIfInBounds_toArray, List.set_cons_zero, List.set_cons_succ]
          refine ke_end ?_
          intro w7 hC hks hcls
          have HCw7 := Lib.hid hC
          have HLw7 := Lib.hid hcls
          clear hC hks hcls
          go_wp2_with (fail)
          go_ret
          have hgw : Grows w w5 := Grows.trans H2.out.1 HG5.out
          refine ⟨B5, i + 1 + m2, d5, rfl, ?_, ((Spares.grows (own := fun k => w5.heap.size ≤ k) hgw).trans HCw7.out.sp).below (Nat.le_refl _) fun k hk h => by have := hgw.size; omega⟩
          rw [HRES.out]
          exact owned_from HLw7.out.own hgw.size
        · have HEQ := Lib.hid heq
          clear heq
          obtain ⟨hs1, A2, c3, hs2, hdk⟩ := cutF (HROW.out) hi (by have := HLL.out; omega)
          have HS1 := Lib.hid hs1
          have HREST := Lib.hid (hdk _ HROW.out)
          have hs2w := hs2
          obtain ⟨m2, hm2⟩ : ∃ k, n - i = k := ⟨_, rfl⟩
          rw [hm2] at hs2 HREST hs2w
          have HRM := Lib.hid (show m2 = n - i from hm2.symm)
          obtain ⟨a2, y, e2, hy2, _, hcy2⟩ := Pls.at HREST.out (i := 0) (by have := HRM.out; omega)
          subst e2
          have hyx : y = (x0, ⟨x1, x2, x3, x4⟩) := by
            rw [List.getElem?_drop, Nat.add_zero, HY.out] at hy2
            injection hy2 with hy2
            exact hy2.symm
          subst hyx
          rw [Nat.zero_mul, fadd0] at hcy2
          have HX2 := Lib.hid (show ∀ w', Grows w4 w' → w'.cell? { block := a2.block, off := a2.off + 2 } = some (.string ⟨x2.toArray⟩) from fun w' hg => (hcy2 w' hg).2.2.1)
          have HPB5 := Lib.hid (show ∀ w', Grows w4 w' → w'.cell? ⟨pb, 2, none⟩ = some (.string ⟨p2.toArray⟩) from fun w' hg => by
            have h2 := (Grows.trans HG.out hg).whole H2.out.2.1
            rw [h2.cell]; rfl)
          have hm20 : 0 < m2 := by have := HRM.out; omega
          have HM2 := Lib.hid hm20
          have hsl := hs2 w4
          have hdrop : l.drop i = (x0, ⟨x1, x2, x3, x4⟩) :: l.drop (i + 1) := by
            have hil := (List.getElem?_eq_some_iff.1 HY.out).1
            rw [List.drop_eq_getElem_cons hil]
            congr 1
            have h1 := HY.out
            rw [List.getElem?_eq_getElem hil] at h1
            injection h1
          have HDR := Lib.hid hdrop
          clear hs1 hs2 hm2 hdk hs2w hy2 hcy2 hm20 hdrop
          have HRES := Lib.hid (show rput l (p0, ⟨p1, p2, p3, p4⟩) = l.take i ++ [((p0, ⟨p1, p2, p3, p4⟩) : Fp)] ++ l.drop (i + 1) from by
            have e := (show i = slot p2 l from slot_eq (by have := HLL.out; omega) (fun j x hj hx => HPRE.out j x hj hx) HPOST.out)
            unfold rput behind
            dsimp only
            rw [← e, HDR.out]
            dsimp only
            rw [if_pos (by have := HEQ.out; simpa using this)])
          go_wp2_with (fail)
          clear hsl
          refine wp_region_facts (E := Grows) [valFact (.slice (some a2) m2 c3), valFact (.int .i64 (m2 : Int)), valFact (.bool true), valFact (.bool true), valFact (.slice (some a2) m2 c3), valFact (.pointer (some a2)), valFact (.pointer (some { block := a2.block, off := a2.off + 1 })), valFact (.pointer (some { block := a2.block, off := a2.off + 2 })), valFact (.string ⟨x2.toArray⟩), valFact (.pointer (some ⟨pb, 1, none⟩)), valFact (.pointer (some ⟨pb, 2, none⟩)), valFact (.string ⟨p2.toArray⟩), valFact (.bool true), valFact (.bool true)] (by kernel_rfl) (by kernel_rfl) (fun _ _ _ => Grows.trans) (grows_drew _) ?_
          refine f_val (.slice (some a2) m2 c3) (by rfl) ?_ ?_
          · intro w' hC; clear hC; go_simp
          simp only [Act.put, List.setIfInBounds_toArray, List.set_cons_zero, List.set_cons_succ]
          refine f_val (.int .i64 (m2 : Int)) (by rfl) ?_ ?_
          · intro w' hC; clear hC; go_simp
          simp only [Act.put, List.setIfInBounds_toArray, List.set_cons_zero, List.set_cons_succ]
          refine f_val (.bool true) (by rfl) ?_ ?_
          · intro w' hC; have k0 := HM2.out; clear hC; go_simp
          simp only [Act.put, List.setIfInBounds_toArray, List.set_cons_zero, List.set_cons_succ]
          refine f_val (.bool true) (by rfl) ?_ ?_
          · intro w' hC; clear hC; go_simp
          simp only [Act.put, List.setIfInBounds_toArray, List.set_cons_zero, List.set_cons_succ]
          refine f_val (.slice (some a2) m2 c3) (by rfl) ?_ ?_
          · intro w' hC; clear hC; go_simp
          simp only [Act.put, List.setIfInBounds_toArray, List.set_cons_zero, List.set_cons_succ]
          refine f_val (.pointer (some a2)) (by rfl) ?_ ?_
          · intro w' hC; have k0 := HM2.out; clear hC; go_simp; try (intro hz; exfalso; omega)
          simp only [Act.put, List.setIfInBounds_toArray, List.set_cons_zero, List.set_cons_succ]
          refine f_val (.pointer (some { block := a2.block, off := a2.off + 1 })) (by rfl) ?_ ?_
          · intro w' hC; clear hC; go_simp
          simp only [Act.put, List.setIfInBounds_toArray, List.set_cons_zero, List.set_cons_succ]
          refine f_val (.pointer (some { block := a2.block, off := a2.off + 2 })) (by rfl) ?_ ?_
          · intro w' hC; clear hC; go_simp
          simp only [Act.put, List.setIfInBounds_toArray, List.set_cons_zero, List.set_cons_succ]
          refine f_val (.string ⟨x2.toArray⟩) (by rfl) ?_ ?_
          · intro w' hC; have z2 := HX2.out w' hC; clear hC; go_simp
          simp only [Act.put, List.setIfInBounds_toArray, List.set_cons_zero, List.set_cons_succ]
          refine f_val (.pointer (some ⟨pb, 1, none⟩)) (by rfl) ?_ ?_
          · intro w' hC; clear hC; go_simp
          simp only [Act.put, List.setIfInBounds_toArray, List.set_cons_zero, List.set_cons_succ]
          refine f_val (.pointer (some ⟨pb, 2, none⟩)) (by rfl) ?_ ?_
          · intro w' hC; clear hC; go_simp
          simp only [Act.put, List.setIfInBounds_toArray, List.set_cons_zero, List.set_cons_succ]
          refine f_val (.string ⟨p2.toArray⟩) (by rfl) ?_ ?_
          · intro w' hC; have z2 := HPB5.out w' hC; clear hC; go_simp
          simp only [Act.put, List.setIfInBounds_toArray, List.set_cons_zero, List.set_cons_succ]
          refine f_val (.bool true) (by rfl) ?_ ?_
          · intro w' hC; have z := HEQ.out; clear hC; go_simp
          simp only [Act.put, List.setIfInBounds_toArray, List.set_cons_zero, List.set_cons_succ]
          refine f_val (.bool true) (by rfl) ?_ ?_
          · intro w' hC; clear hC; go_simp
          simp only [Act.put, List.setIfInBounds_toArray, List.set_cons_zero, List.set_cons_succ]
          refine wpF_end ?_
          intro w5 hC hks
          have HCw5 := Lib.hid hC
          clear hC hks
          have HROW5 := Lib.hid (HROW.out.grow HCw5.out)
          have HG5 := Lib.hid (Grows.trans HG.out HCw5.out)
          obtain ⟨_, A9, c9, hs9, hd9⟩ := cutF (HREST.out.grow HCw5.out) (i := 1) (by have := HM2.out; omega) (by have := HLL.out; have := HRM.out; omega)
          obtain ⟨m9, hm9⟩ : ∃ k, m2 - 1 = k := ⟨_, rfl⟩
          have HREST5 := Lib.hid (show Pls w5 A9 m9 c9 (l.drop (i + 1)) from by
            have h1 := hd9 _ (HREST.out.grow HCw5.out)
            rw [hm9, List.drop_drop] at h1
            exact h1)
          have hsl9 : (Instr.sliceAt 26 (.slice (some a2) m2 c3) (some (.int .i64 1)) none none).run Try.prog w5 = .ok (.slice A9 (m2 - 1) c9) w5 := hs9 w5
          rw [hm9] at hsl9
          have HRM := Lib.hid (show m9 = n - i - 1 from by have := HRM.out; omega)
          clear hs9 hd9 hm9
          have HTK := Lib.hid (show ∀ w', Keep5 w5.heap.size w5 w' → Pls w' (some ad) i c (l.take i) from fun w' hC => (pls_keepF (HROW5.out) hC).first hi)
          have HDK := Lib.hid (show ∀ w', Keep5 w5.heap.size w5 w' → Pls w' (A9) m9 c9 (l.drop (i + 1)) from fun w' hC => pls_keepF (HREST5.out) hC)
          have HLN := Lib.hid (show (((l.take i).length = i ∧ 0 + i ≤ 1000000) ∧ (([((p0, ⟨p1, p2, p3, p4⟩) : Fp)]).length = 1 ∧ i + 1 ≤ 1000000) ∧ ((l.drop (i + 1)).length = m9 ∧ i + 1 + m9 ≤ 1000000)) from by
            have h1 := HLL.out
            have h2 := HREST5.out.len
            have h3 := HRM.out
            exact ⟨⟨by rw [List.length_take]; omega, by omega⟩, ⟨rfl, by omega⟩, ⟨h2, by omega⟩⟩)
          have HP5 := Lib.hid (show ∀ w', Keep5 w5.heap.size w5 w' → w'.cell? ⟨pb, 0, none⟩ = some (.int .i64 p0) ∧ w'.cell? ⟨pb, 1, none⟩ = some (.int .i64 p1) ∧ w'.cell? ⟨pb, 2, none⟩ = some (.string ⟨p2.toArray⟩) ∧ w'.cell? ⟨pb, 3, none⟩ = some (.int .i64 p3) ∧ w'.cell? ⟨pb, 4, none⟩ = some (.int .i64 p4) from fun w' hC => by
            have h1 := HG5.out.whole H2.out.2.1
            have h2 : Whole w' pb 35 #[.int .i64 p0, .int .i64 p1, .string ⟨p2.toArray⟩, .int .i64 p3, .int .i64 p4] := (hC.sp.same pb h1.lt (by have := h1.lt; omega)).trans h1
            refine ⟨?_, ?_, ?_, ?_, ?_⟩ <;> (rw [h2.cell]; rfl))
          go_wp2_with (fail)
          clear hsl9
          refine wp_region_jobs (G := Grows) (E := Keep5 (w5.heap.size)) 10 [cJob (w5.heap.size) Nat 0 (fun g => .slice (some ⟨g, 0, none⟩) 0 0) (fun g w' => Chain (w5.heap.size) [] 0 (some ⟨g, 0, none⟩) 0 w') (fun _ _ _ h hg => h.grow hg), vJob (w5.heap.size) (.slice (some ad) n c), vJob (w5.heap.size) (.int .i64 (i : Int)), vJob (w5.heap.size) (.slice (some ad) i c), cJob (w5.heap.size) (Option Addr × Nat) (none, 0) (fun p => .slice p.1 (i) p.2) (fun p w' => Chain (w5.heap.size) (l.take i) (i) p.1 p.2 w') (fun _ _ _ h hg => h.grow hg), vJob (w5.heap.size) (.agg #[.int .i64 p0, .int .i64 p1, .string ⟨p2.toArray⟩, .int .i64 p3, .int .i64 p4]), mJob (w5.heap.size) (35) (#[.int .i64 p0, .int .i64 p1, .string ⟨p2.toArray⟩, .int .i64 p3, .int .i64 p4]) rfl, cJob (w5.heap.size) (Option Addr × Nat) (none, 0) (fun p => .slice p.1 (i + 1) p.2) (fun p w' => Chain (w5.heap.size) (l.take i ++ [((p0, ⟨p1, p2, p3, p4⟩) : Fp)]) (i + 1) p.1 p.2 w') (fun _ _ _ h hg => h.grow hg), vJob (w5.heap.size) (.slice (A9) m9 c9), cJob (w5.heap.size) (Option Addr × Nat) (none, 0) (fun p => .slice p.1 (i + 1 + m9) p.2) (fun p w' => Chain (w5.heap.size) (l.take i ++ [((p0, ⟨p1, p2, p3, p4⟩) : Fp)] ++ l.drop (i + 1)) (i + 1 + m9) p.1 p.2 w') (fun _ _ _ h hg => h.grow hg)] [(true, true), (false, false), (false, false), (false, false), (true, true), (false, false), (false, false), (true, true), (false, false), (true, true)] (fun _ => True) rfl mixed (by kernel_rfl) (fun _ _ => Keep5.ofGrows) (fun _ _ _ => Keep5.trans) (keep5_drew _ _) trivial (fun _ _ h _ => h) ?_
          simp only [List.take_succ_cons, List.take_zero, List.drop_succ_cons, List.drop_zero]
          refine ke_cls (by rfl) (fun w' hC hcls hks => ⟨w'.heap.size, w'.alloc (.cells #[] 35), by go_simp, Keep5.ofGrows (grows_alloc _ _), ⟨World.ownsRow_lit w' #[] 0 hC.sp.size (Nat.zero_le _) rfl, fun _ => rfl, by simp⟩⟩) ?_
          intro g1
          dsimp only
          simp only [Act.put, List.setIfInBounds_toArray, List.set_cons_zero, List.set_cons_succ]
          refine ke_val (.slice (some ad) n c) (by rfl) ?_ ?_
          · intro w' hC; clear hC; go_simp
          simp only [Act.put, List.setIfInBounds_toArray, List.set_cons_zero, List.set_cons_succ]
          refine ke_val (.int .i64 (i : Int)) (by rfl) ?_ ?_
          · intro w' hC; clear hC; go_simp
          simp only [Act.put, List.setIfInBounds_toArray, List.set_cons_zero, List.set_cons_succ]
          refine ke_val (.slice (some ad) i c) (by rfl) ?_ ?_
          · intro w' hC; have z := HS1.out w'; clear hC; go_simp
          simp only [Act.put, List.setIfInBounds_toArray, List.set_cons_zero, List.set_cons_succ]
          refine ke_cls (by rfl) (fun w' hC hcls hks => ?_) ?_
          · obtain ⟨A', c', w2, hr, hc2, hk2⟩ := chain_append (ty := 26) hcls (lies_of (HTK.out w' hC)) HLN.out.1 hC.sp.size (k := i) (Nat.zero_add i) (l3 := l.take i) rfl
            exact ⟨(A', c'), w2, exec_appF rfl rfl rfl hr, hk2, hc2⟩
          rintro ⟨B2, d2⟩
          dsimp only
          simp only [Act.put, List.setIfInBounds_toArray, List.set_cons_zero, List.set_cons_succ]
          refine ke_val (.agg #[.int .i64 p0, .int .i64 p1, .string ⟨p2.toArray⟩, .int .i64 p3, .int .i64 p4]) (by rfl) ?_ ?_
          · intro w' hC; obtain ⟨z0, z1, z2, z3, z4⟩ := HP5.out w' hC; clear hC; go_simp
          simp only [Act.put, List.setIfInBounds_toArray, List.set_cons_zero, List.set_cons_succ]
          refine ke_made (35) (#[.int .i64 p0, .int .i64 p1, .string ⟨p2.toArray⟩, .int .i64 p3, .int .i64 p4]) rfl (by rfl) ?_ ?_
          · intro w' hC; clear hC; go_simp
          intro g2
          simp only [Act.put, List.setIfInBounds_toArray, List.set_cons_zero, List.set_cons_succ]
          refine ke_cls (by rfl) (fun w' hC hcls hks => ?_) ?_
          · obtain ⟨A', c', w2, hr, hc2, hk2⟩ := chain_append (ty := 26) hcls (l2 := [((p0, ⟨p1, p2, p3, p4⟩) : Fp)]) (fun _ => ⟨⟨g2, 0, none⟩, rfl, fun t u hu => cell_litF (Known.get hks 0 rfl rfl) t u hu⟩) HLN.out.2.1 hC.sp.size (k := i + 1) rfl (l3 := l.take i ++ [((p0, ⟨p1, p2, p3, p4⟩) : Fp)]) rfl
            exact ⟨(A', c'), w2, exec_appF rfl rfl rfl hr, hk2, hc2⟩
          rintro ⟨B3, d3⟩
          dsimp only
          simp only [Act.put, List.setIfInBounds_toArray, List.set_cons_zero, List.set_cons_succ]
          refine ke_val (.slice (A9) m9 c9) (by rfl) ?_ ?_
          · intro w' hC; clear hC; go_simp
          simp only [Act.put, List.setIfInBounds_toArray, List.set_cons_zero, List.set_cons_succ]
          refine ke_cls (by rfl) (fun w' hC hcls hks => ?_) ?_
          · obtain ⟨A', c', w2, hr, hc2, hk2⟩ := chain_append (ty := 26) hcls (lies_of (HDK.out w' hC)) HLN.out.2.2 hC.sp.size (k := i + 1 + m9) rfl (l3 := l.take i ++ [((p0, ⟨p1, p2, p3, p4⟩) : Fp)] ++ l.drop (i + 1)) rfl
            exact ⟨(A', c'), w2, exec_appF rfl rfl rfl hr, hk2, hc2⟩
          rintro ⟨B5, d5⟩
          dsimp only
          simp only [Act.put, List.setIfInBounds_toArray, List.set_cons_zero, List.set_cons_succ]
          refine ke_end ?_
          intro w7 hC hks hcls
          have HCw7 := Lib.hid hC
          have HLw7 := Lib.hid hcls
          clear hC hks hcls
          go_wp2_with (fail)
          go_ret
          have hgw : Grows w w5 := Grows.trans H2.out.1 HG5.out
          refine ⟨B5, i + 1 + m9, d5, rfl, ?_, ((Spares.grows (own := fun k => w5.heap.size ≤ k) hgw).trans HCw7.out.sp).below (Nat.le_refl _) fun k hk h => by have := hgw.size; omega⟩
          rw [HRES.out]
          exact owned_from HLw7.out.own hgw.size
      · have HKL := Lib.hid ((fless x2 p2).trans hr)
        have HPR2 := Lib.hid (show ∀ (j : Nat) (x : Fp), j < i + 1 → l[j]? = some x → bytesBefore x.2.key p2 = true from fun j z hj hz => by
          by_cases e : j = i
          · subst e
            rw [HY.out] at hz
            injection hz with hz
            rw [← hz]; exact hr
          · exact HPRE.out j z (by omega) hz)
        have hmm := HLL.out.2
        clear hr
        go_wp2_with (fail)
        refine wp_region_facts (E := Grows) [valFact (.int .i64 (i : Int)), valFact (.slice (some ad) n c), valFact (.int .i64 (n : Int)), valFact (.bool true), valFact (.bool true), valFact (.slice (some ad) n c), valFact (.int .i64 (i : Int)), valFact (.pointer (some (ad.add (i * 5)))), valFact (.pointer (some { block := (ad.add (i * 5)).block, off := (ad.add (i * 5)).off + 1 })), valFact (.pointer (some { block := (ad.add (i * 5)).block, off := (ad.add (i * 5)).off + 2 })), valFact (.string ⟨x2.toArray⟩), valFact (.pointer (some ⟨pb, 1, none⟩)), valFact (.pointer (some ⟨pb, 2, none⟩)), valFact (.string ⟨p2.toArray⟩), valFact (.bool true), valFact (.bool true)] (by kernel_rfl) (by kernel_rfl) (fun _ _ _ => Grows.trans) (grows_drew _) ?_
        refine f_val (.int .i64 (i : Int)) (by rfl) ?_ ?_
        · intro w' hC; clear hC; go_simp
        simp only [Act.put, List.setIfInBounds_toArray, List.set_cons_zero, List.set_cons_succ]
        refine f_val (.slice (some ad) n c) (by rfl) ?_ ?_
        · intro w' hC; clear hC; go_simp
        simp only [Act.put, List.setIfInBounds_toArray, List.set_cons_zero, List.set_cons_succ]
        refine f_val (.int .i64 (n : Int)) (by rfl) ?_ ?_
        · intro w' hC; clear hC; go_simp
        simp only [Act.put, List.setIfInBounds_toArray, List.set_cons_zero, List.set_cons_succ]
        refine f_val (.bool true) (by rfl) ?_ ?_
        · intro w' hC; clear hC; go_simp
        simp only [Act.put, List.setIfInBounds_toArray, List.set_cons_zero, List.set_cons_succ]
        refine f_val (.bool true) (by rfl) ?_ ?_
        · intro w' hC; clear hC; go_simp
        simp only [Act.put, List.setIfInBounds_toArray, List.set_cons_zero, List.set_cons_succ]
        refine f_val (.slice (some ad) n c) (by rfl) ?_ ?_
        · intro w' hC; clear hC; go_simp
        simp only [Act.put, List.setIfInBounds_toArray, List.set_cons_zero, List.set_cons_succ]
        refine f_val (.int .i64 (i : Int)) (by rfl) ?_ ?_
        · intro w' hC; clear hC; go_simp
        simp only [Act.put, List.setIfInBounds_toArray, List.set_cons_zero, List.set_cons_succ]
        refine f_val (.pointer (some (ad.add (i * 5)))) (by rfl) ?_ ?_
        · intro w' hC; clear hC; go_simp
        simp only [Act.put, List.setIfInBounds_toArray, List.set_cons_zero, List.set_cons_succ]
        refine f_val (.pointer (some { block := (ad.add (i * 5)).block, off := (ad.add (i * 5)).off + 1 })) (by rfl) ?_ ?_
        · intro w' hC; clear hC; go_simp
        simp only [Act.put, List.setIfInBounds_toArray, List.set_cons_zero, List.set_cons_succ]
        refine f_val (.pointer (some { block := (ad.add (i * 5)).block, off := (ad.add (i * 5)).off + 2 })) (by rfl) ?_ ?_
        · intro w' hC; clear hC; go_simp
        simp only [Act.put, List.setIfInBounds_toArray, List.set_cons_zero, List.set_cons_succ]
        refine f_val (.string ⟨x2.toArray⟩) (by rfl) ?_ ?_
        · intro w' hC; obtain ⟨c0, c1, c2, c3, c4⟩ := HCY.out w' hC; clear hC; go_simp
        simp only [Act.put, List.setIfInBounds_toArray, List.set_cons_zero, List.set_cons_succ]
        refine f_val (.pointer (some ⟨pb, 1, none⟩)) (by rfl) ?_ ?_
        · intro w' hC; clear hC; go_simp
        simp only [Act.put, List.setIfInBounds_toArray, List.set_cons_zero, List.set_cons_succ]
        refine f_val (.pointer (some ⟨pb, 2, none⟩)) (by rfl) ?_ ?_
        · intro w' hC; clear hC; go_simp
        simp only [Act.put, List.setIfInBounds_toArray, List.set_cons_zero, List.set_cons_succ]
        refine f_val (.string ⟨p2.toArray⟩) (by rfl) ?_ ?_
        · intro w' hC; have z2 := HPB.out w' hC; clear hC; go_simp
        simp only [Act.put, List.setIfInBounds_toArray, List.set_cons_zero, List.set_cons_succ]
        refine f_val (.bool true) (by rfl) ?_ ?_
        · intro w' hC; have z := HKL.out; clear hC; go_simp
        simp only [Act.put, List.setIfInBounds_toArray, List.set_cons_zero, List.set_cons_succ]
        refine f_val (.bool true) (by rfl) ?_ ?_
        · intro w' hC; clear hC; go_simp
        simp only [Act.put, List.setIfInBounds_toArray, List.set_cons_zero, List.set_cons_succ]
        refine wpF_end ?_
        intro w4 hC hks
        have HCw4 := Lib.hid hC
        clear hC hks
        go_wp2_with (fail)
        go_roundw
        case rel => exact ⟨i + 1, hlt, by first | rfl | go_num, HPR2, Lib.hid (Grows.trans HG.out HCw4.out)⟩
        case measure => simp [intOf]; omega
    · have HPOST := Lib.hid (show ∀ y, l[i]? = some y → bytesBefore y.2.key p2 = false from fun y hy => by
        have h1 := (List.getElem?_eq_some_iff.1 hy).1
        have := HLL.out
        omega)
      have hnl : ¬ ((i : Int) < (n : Int)) := by omega
      go_wp2_with (fail)
      refine wp_region_facts (E := Grows) [valFact (.int .i64 (i : Int)), valFact (.slice (A) n c), valFact (.int .i64 (n : Int)), valFact (.bool false), valFact (.bool false), valFact undef, valFact undef, valFact undef, valFact undef, valFact undef, valFact undef, valFact undef, valFact undef, valFact undef, valFact undef, valFact (.bool false)] (by kernel_rfl) (by kernel_rfl) (fun _ _ _ => Grows.trans) (grows_drew _) ?_
      refine f_val (.int .i64 (i : Int)) (by rfl) ?_ ?_
      · intro w' hC; clear hC; go_simp
      simp only [Act.put, List.setIfInBounds_toArray, List.set_cons_zero, List.set_cons_succ]
      refine f_val (.slice (A) n c) (by rfl) ?_ ?_
      · intro w' hC; clear hC; go_simp
      simp only [Act.put, List.setIfInBounds_toArray, List.set_cons_zero, List.set_cons_succ]
      refine f_val (.int .i64 (n : Int)) (by rfl) ?_ ?_
      · intro w' hC; clear hC; go_simp
      simp only [Act.put, List.setIfInBounds_toArray, List.set_cons_zero, List.set_cons_succ]
      refine f_val (.bool false) (by rfl) ?_ ?_
      · intro w' hC; clear hC; go_simp
      simp only [Act.put, List.setIfInBounds_toArray, List.set_cons_zero, List.set_cons_succ]
      refine f_val (.bool false) (by rfl) ?_ ?_
      · intro w' hC; clear hC; go_simp
      simp only [Act.put, List.setIfInBounds_toArray, List.set_cons_zero, List.set_cons_succ]
      refine f_skip (by rfl) ?_
      simp only [Act.put, List.setIfInBounds_toArray, List.set_cons_zero, List.set_cons_succ]
      refine f_skip (by rfl) ?_
      simp only [Act.put, List.setIfInBounds_toArray, List.set_cons_zero, List.set_cons_succ]
      refine f_skip (by rfl) ?_
      simp only [Act.put, List.setIfInBounds_toArray, List.set_cons_zero, List.set_cons_succ]
      refine f_skip (by rfl) ?_
      simp only [Act.put, List.setIfInBounds_toArray, List.set_cons_zero, List.set_cons_succ]
      refine f_skip (by rfl) ?_
      simp only [Act.put, List.setIfInBounds_toArray, List.set_cons_zero, List.set_cons_succ]
      refine f_skip (by rfl) ?_
      simp only [Act.put, List.setIfInBounds_toArray, List.set_cons_zero, List.set_cons_succ]
      refine f_skip (by rfl) ?_
      simp only [Act.put, List.setIfInBounds_toArray, List.set_cons_zero, List.set_cons_succ]
      refine f_skip (by rfl) ?_
      simp only [Act.put, List.setIfInBounds_toArray, List.set_cons_zero, List.set_cons_succ]
      refine f_skip (by rfl) ?_
      simp only [Act.put, List.setIfInBounds_toArray, List.set_cons_zero, List.set_cons_succ]
      refine f_skip (by rfl) ?_
      simp only [Act.put, List.setIfInBounds_toArray, List.set_cons_zero, List.set_cons_succ]
      refine f_val (.bool false) (by rfl) ?_ ?_
      · intro w' hC; clear hC; go_simp
      simp only [Act.put, List.setIfInBounds_toArray, List.set_cons_zero, List.set_cons_succ]
      refine wpF_end ?_
      intro w4 hC hks
      have HCw4 := Lib.hid hC
      clear hC hks
      have HROW := Lib.hid (HROW.out.grow HCw4.out)
      have HG := Lib.hid (Grows.trans HG.out HCw4.out)
      clear HCw4 hnl
      obtain ⟨hs1, A2, c3, hs2, hdk⟩ := cutF (HROW.out) hi (by have := HLL.out; omega)
      have HS1 := Lib.hid hs1
      have HREST := Lib.hid (hdk _ HROW.out)
      have hs2w := hs2
      obtain ⟨m2, hm2⟩ : ∃ k, n - i = k := ⟨_, rfl⟩
      rw [hm2] at hs2 HREST hs2w
      have HRM := Lib.hid (show m2 = n - i from hm2.symm)
      obtain rfl : m2 = 0 := by omega
      have hsl := hs2 w4
      clear hs1 hs2 hm2 hdk hs2w
      have HRES := Lib.hid (show rput l (p0, ⟨p1, p2, p3, p4⟩) = l.take i ++ [((p0, ⟨p1, p2, p3, p4⟩) : Fp)] ++ [] from by
        have e := (show i = slot p2 l from slot_eq (by have := HLL.out; omega) (fun j x hj hx => HPRE.out j x hj hx) HPOST.out)
        unfold rput behind
        dsimp only
        rw [← e, List.drop_of_length_le (by have := HLL.out; have := HRM.out; omega)])
      go_wp2_with (fail)
      clear hsl
      refine wp_region_facts (E := Grows) [valFact (.slice A2 0 c3), valFact (.int .i64 0), valFact (.bool false), valFact (.bool false), valFact undef, valFact undef, valFact undef, valFact undef, valFact undef, valFact undef, valFact undef, valFact undef, valFact undef, valFact (.bool false)] (by kernel_rfl) (by kernel_rfl) (fun _ _ _ => Grows.trans) (grows_drew _) ?_
      refine f_val (.slice A2 0 c3) (by rfl) ?_ ?_
      · intro w' hC; clear hC; go_simp
      simp only [Act.put, List.setIfInBounds_toArray, List.set_cons_zero, List.set_cons_succ]
      refine f_val (.int .i64 0) (by rfl) ?_ ?_
      · intro w' hC; clear hC; go_simp
      simp only [Act.put, List.setIfInBounds_toArray, List.set_cons_zero, List.set_cons_succ]
      refine f_val (.bool false) (by rfl) ?_ ?_
      · intro w' hC; clear hC; go_simp
      simp only [Act.put, List.setIfInBounds_toArray, List.set_cons_zero, List.set_cons_succ]
      refine f_val (.bool false) (by rfl) ?_ ?_
      · intro w' hC; clear hC; go_simp
      simp only [Act.put, List.setIfInBounds_toArray, List.set_cons_zero, List.set_cons_succ]
      refine f_skip (by rfl) ?_
      simp only [Act.put, List.setIfInBounds_toArray, List.set_cons_zero, List.set_cons_succ]
      refine f_skip (by rfl) ?_
      simp only [Act.put, List.setIfInBounds_toArray, List.set_cons_zero, List.set_cons_succ]
      refine f_skip (by rfl) ?_
      simp only [Act.put, List.setIfInBounds_toArray, List.set_cons_zero, List.set_cons_succ]
      refine f_skip (by rfl) ?_
      simp only [Act.put, List.setIfInBounds_toArray, List.set_cons_zero, List.set_cons_succ]
      refine f_skip (by rfl) ?_
      simp only [Act.put, List.setIfInBounds_toArray, List.set_cons_zero, List.set_cons_succ]
      refine f_skip (by rfl) ?_
      simp only [Act.put, List.setIfInBounds_toArray, List.set_cons_zero, List.set_cons_succ]
      refine f_skip (by rfl) ?_
      simp only [Act.put, List.setIfInBounds_toArray, List.set_cons_zero, List.set_cons_succ]
      refine f_skip (by rfl) ?_
      simp only [Act.put, List.setIfInBounds_toArray, List.set_cons_zero, List.set_cons_succ]
      refine f_skip (by rfl) ?_
      simp only [Act.put, List.setIfInBounds_toArray, List.set_cons_zero, List.set_cons_succ]
      refine f_val (.bool false) (by rfl) ?_ ?_
      · intro w' hC; clear hC; go_simp
      simp only [Act.put, List.setIfInBounds_toArray, List.set_cons_zero, List.set_cons_succ]
      refine wpF_end ?_
      intro w5 hC hks
      have HCw5 := Lib.hid hC
      clear hC hks
      have HROW5 := Lib.hid (HROW.out.grow HCw5.out)
      have HG5 := Lib.hid (Grows.trans HG.out HCw5.out)
      have HREST5 := Lib.hid (show Pls w5 A2 0 c3 [] from by
        have h1 := HREST.out.grow HCw5.out
        rwa [List.drop_of_length_le (by have := HLL.out; have := HRM.out; omega)] at h1)
      have HTK := Lib.hid (show ∀ w', Keep5 w5.heap.size w5 w' → Pls w' (A) i c (l.take i) from fun w' hC => (pls_keepF (HROW5.out) hC).first hi)
      have HDK := Lib.hid (show ∀ w', Keep5 w5.heap.size w5 w' → Pls w' (A2) 0 c3 ([]) from fun w' hC => pls_keepF (HREST5.out) hC)
      have HLN := Lib.hid (show (((l.take i).length = i ∧ 0 + i ≤ 1000000) ∧ (([((p0, ⟨p1, p2, p3, p4⟩) : Fp)]).length = 1 ∧ i + 1 ≤ 1000000) ∧ (([]).length = 0 ∧ i + 1 + 0 ≤ 1000000)) from by
        have h1 := HLL.out
        have h2 := HREST5.out.len
        have h3 := HRM.out
        exact ⟨⟨by rw [List.length_take]; omega, by omega⟩, ⟨rfl, by omega⟩, ⟨h2, by omega⟩⟩)
      have HP5 := Lib.hid (show ∀ w', Keep5 w5.heap.size w5 w' → w'.cell? ⟨pb, 0, none⟩ = some (.int .i64 p0) ∧ w'.cell? ⟨pb, 1, none⟩ = some (.int .i64 p1) ∧ w'.cell? ⟨pb, 2, none⟩ = some (.string ⟨p2.toArray⟩) ∧ w'.cell? ⟨pb, 3, none⟩ = some (.int .i64 p3) ∧ w'.cell? ⟨pb, 4, none⟩ = some (.int .i64 p4) from fun w' hC => by
        have h1 := HG5.out.whole H2.out.2.1
        have h2 : Whole w' pb 35 #[.int .i64 p0, .int .i64 p1, .string ⟨p2.toArray⟩, .int .i64 p3, .int .i64 p4] := (hC.sp.same pb h1.lt (by have := h1.lt; omega)).trans h1
        refine ⟨?_, ?_, ?_, ?_, ?_⟩ <;> (rw [h2.cell]; rfl))
      go_wp2_with (fail)
      refine wp_region_jobs (G := Grows) (E := Keep5 (w5.heap.size)) 10 [cJob (w5.heap.size) Nat 0 (fun g => .slice (some ⟨g, 0, none⟩) 0 0) (fun g w' => Chain (w5.heap.size) [] 0 (some ⟨g, 0, none⟩) 0 w') (fun _ _ _ h hg => h.grow hg), vJob (w5.heap.size) (.slice (A) n c), vJob (w5.heap.size) (.int .i64 (i : Int)), vJob (w5.heap.size) (.slice (A) i c), cJob (w5.heap.size) (Option Addr × Nat) (none, 0) (fun p => .slice p.1 (i) p.2) (fun p w' => Chain (w5.heap.size) (l.take i) (i) p.1 p.2 w') (fun _ _ _ h hg => h.grow hg), vJob (w5.heap.size) (.agg #[.int .i64 p0, .int .i64 p1, .string ⟨p2.toArray⟩, .int .i64 p3, .int .i64 p4]), mJob (w5.heap.size) (35) (#[.int .i64 p0, .int .i64 p1, .string ⟨p2.toArray⟩, .int .i64 p3, .int .i64 p4]) rfl, cJob (w5.heap.size) (Option Addr × Nat) (none, 0) (fun p => .slice p.1 (i + 1) p.2) (fun p w' => Chain (w5.heap.size) (l.take i ++ [((p0, ⟨p1, p2, p3, p4⟩) : Fp)]) (i + 1) p.1 p.2 w') (fun _ _ _ h hg => h.grow hg), vJob (w5.heap.size) (.slice (A2) 0 c3), cJob (w5.heap.size) (Option Addr × Nat) (none, 0) (fun p => .slice p.1 (i + 1 + 0) p.2) (fun p w' => Chain (w5.heap.size) (l.take i ++ [((p0, ⟨p1, p2, p3, p4⟩) : Fp)] ++ []) (i + 1 + 0) p.1 p.2 w') (fun _ _ _ h hg => h.grow hg)] [(true, true), (false, false), (false, false), (false, false), (true, true), (false, false), (false, false), (true, true), (false, false), (true, true)] (fun _ => True) rfl mixed (by kernel_rfl) (fun _ _ => Keep5.ofGrows) (fun _ _ _ => Keep5.trans) (keep5_drew _ _) trivial (fun _ _ h _ => h) ?_
      simp only [List.take_succ_cons, List.take_zero, List.drop_succ_cons, List.drop_zero]
      refine ke_cls (by rfl) (fun w' hC hcls hks => ⟨w'.heap.size, w'.alloc (.cells #[] 35), by go_simp, Keep5.ofGrows (grows_alloc _ _), ⟨World.ownsRow_lit w' #[] 0 hC.sp.size (Nat.zero_le _) rfl, fun _ => rfl, by simp⟩⟩) ?_
      intro g1
      dsimp only
      simp only [Act.put, List.setIfInBounds_toArray, List.set_cons_zero, List.set_cons_succ]
      refine ke_val (.slice (A) n c) (by rfl) ?_ ?_
      · intro w' hC; clear hC; go_simp
      simp only [Act.put, List.setIfInBounds_toArray, List.set_cons_zero, List.set_cons_succ]
      refine ke_val (.int .i64 (i : Int)) (by rfl) ?_ ?_
      · intro w' hC; clear hC; go_simp
      simp only [Act.put, List.setIfInBounds_toArray, List.set_cons_zero, List.set_cons_succ]
      refine ke_val (.slice (A) i c) (by rfl) ?_ ?_
      · intro w' hC; have z := HS1.out w'; clear hC; go_simp
      simp only [Act.put, List.setIfInBounds_toArray, List.set_cons_zero, List.set_cons_succ]
      refine ke_cls (by rfl) (fun w' hC hcls hks => ?_) ?_
      · obtain ⟨A', c', w2, hr, hc2, hk2⟩ := chain_append (ty := 26) hcls (lies_of (HTK.out w' hC)) HLN.out.1 hC.sp.size (k := i) (Nat.zero_add i) (l3 := l.take i) rfl
        exact ⟨(A', c'), w2, exec_appF rfl rfl rfl hr, hk2, hc2⟩
      rintro ⟨B2, d2⟩
      dsimp only
      simp only [Act.put, List.setIfInBounds_toArray, List.set_cons_zero, List.set_cons_succ]
      refine ke_val (.agg #[.int .i64 p0, .int .i64 p1, .string ⟨p2.toArray⟩, .int .i64 p3, .int .i64 p4]) (by rfl) ?_ ?_
      · intro w' hC; obtain ⟨z0, z1, z2, z3, z4⟩ := HP5.out w' hC; clear hC; go_simp
      simp only [Act.put, List.setIfInBounds_toArray, List.set_cons_zero, List.set_cons_succ]
      refine ke_made (35) (#[.int .i64 p0, .int .i64 p1, .string ⟨p2.toArray⟩, .int .i64 p3, .int .i64 p4]) rfl (by rfl) ?_ ?_
      · intro w' hC; clear hC; go_simp
      intro g2
      simp only [Act.put, List.setIfInBounds_toArray, List.set_cons_zero, List.set_cons_succ]
      refine ke_cls (by rfl) (fun w' hC hcls hks => ?_) ?_
      · obtain ⟨A', c', w2, hr, hc2, hk2⟩ := chain_append (ty := 26) hcls (l2 := [((p0, ⟨p1, p2, p3, p4⟩) : Fp)]) (fun _ => ⟨⟨g2, 0, none⟩, rfl, fun t u hu => cell_litF (Known.get hks 0 rfl rfl) t u hu⟩) HLN.out.2.1 hC.sp.size (k := i + 1) rfl (l3 := l.take i ++ [((p0, ⟨p1, p2, p3, p4⟩) : Fp)]) rfl
        exact ⟨(A', c'), w2, exec_appF rfl rfl rfl hr, hk2, hc2⟩
      rintro ⟨B3, d3⟩
      dsimp only
      simp only [Act.put, List.setIfInBounds_toArray, List.set_cons_zero, List.set_cons_succ]
      refine ke_val (.slice (A2) 0 c3) (by rfl) ?_ ?_
      · intro w' hC; clear hC; go_simp
      simp only [Act.put, List.setIfInBounds_toArray, List.set_cons_zero, List.set_cons_succ]
      refine ke_cls (by rfl) (fun w' hC hcls hks => ?_) ?_
      · obtain ⟨A', c', w2, hr, hc2, hk2⟩ := chain_append (ty := 26) hcls (lies_of (HDK.out w' hC)) HLN.out.2.2 hC.sp.size (k := i + 1 + 0) rfl (l3 := l.take i ++ [((p0, ⟨p1, p2, p3, p4⟩) : Fp)] ++ []) rfl
        exact ⟨(A', c'), w2, exec_appF rfl rfl rfl hr, hk2, hc2⟩
      rintro ⟨B5, d5⟩
      dsimp only
      simp only [Act.put, List.setIfInBounds_toArray, List.set_cons_zero, List.set_cons_succ]
      refine ke_end ?_
      intro w7 hC hks hcls
      have HCw7 := Lib.hid hC
      have HLw7 := Lib.hid hcls
      clear hC hks hcls
      go_wp2_with (fail)
      go_ret
      have hgw : Grows w w5 := Grows.trans H2.out.1 HG5.out
      refine ⟨B5, i + 1 + 0, d5, rfl, ?_, ((Spares.grows (own := fun k => w5.heap.size ≤ k) hgw).trans HCw7.out.sp).below (Nat.le_refl _) fun k hk h => by have := hgw.size; omega⟩
      rw [HRES.out]
      exact owned_from HLw7.out.own hgw.size
end Go.Proofs.Ytnnkioekjobbmaa
