/-
  Less and Swap of fold's heap.
-/
import Derived.Test.YtnnkioekjobbmaaFdMem
namespace Go.Proofs.Ytnnkioekjobbmaa
open Go.RowKit
set_option linter.unusedVariables false
set_option linter.unusedSimpArgs false
attribute [local irreducible] wpF

abbrev elT (xb : Nat) (xi : Int) (xa : Addr) (xn xc : Nat) (xk : List UInt8) (g i : Nat) (w' : World) : Prop :=
  w'.cell? ⟨g, i, none⟩ = some (.pointer (some ⟨xb, 0, none⟩)) ∧ w'.cell? ⟨xb, 0, none⟩ = some (.int .i64 xi) ∧ w'.cell? ⟨xb, 1, none⟩ = some (.slice (some xa) xn xc) ∧ w'.cell? { block := xa.block, off := xa.off + 1 } = some (.string ⟨xk.toArray⟩)
/-- What there is to read of an element. -/
theorem Hp.told {W0 w : World} {h g c : Nat} {l : List El} {n : Nat} (hp : Hp W0 w h l (some ⟨g, 0, none⟩) c) (hn : l.length = n) {i : Nat} {x : El} (hx : l[i]? = some x) : 0 < x.n ∧ x.n ≤ 1000000 ∧ ∀ w', Grows w w' → elT x.blk x.no x.ad x.n x.c (keyE x) g i w' := by
  have hm := List.mem_of_getElem? hx
  have he := hp.els x hm
  have hg := hp.good.each x hm
  have hr := he.row
  unfold keyE
  rcases hh : x.hs with _ | ⟨a, r⟩
  · exact absurd hh hg.1
  · rw [hh] at hr
    obtain ⟨h0, h1, h2⟩ := hr.top
    refine ⟨h0, he.few.1, fun w' hgw => ?_⟩
    have hb := hgw.whole he.blk
    have ho : w'.ownsRow W0.heap.size 51 1 (.slice (some ⟨g, 0, none⟩) l.length c) l.length (l.flatMap elE) := owned_grow hp.own hgw
    exact ⟨cell1 ho hx, hb.cell 0, hb.cell 1, (h2 w' (hp.old.trans hgw)).2.1⟩
set_option maxRecDepth 100000 in
set_option maxHeartbeats 4000000 in
theorem less_any {W0 w : World} {h g c n : Nat} {l : List El} (hp : Hp W0 w h l (some ⟨g, 0, none⟩) c) (hln : l.length = n) (i j : Nat) (hi : i < n) (hj : j < n) :
    Calls Try.prog 46 #[.slice (some ⟨g, 0, none⟩) n c, .int .i64 (i : Int), .int .i64 (j : Int)] w fun e w' => e = .returned (.bool (ltE l[i]! l[j]!)) ∧ Grows w w' := by
  obtain ⟨x, hx⟩ : ∃ x, l[i]? = some x := ⟨_, List.getElem?_eq_getElem (by omega)⟩
  obtain ⟨y, hy⟩ : ∃ x, l[j]? = some x := ⟨_, List.getElem?_eq_getElem (by omega)⟩
  have ex : l[i]! = x := by rw [getElem!_def, hx]
  have ey : l[j]! = y := by rw [getElem!_def, hy]
  rw [ex, ey]
  have hfew := hp.few
  obtain ⟨hxn, hxn2, htx⟩ := hp.told hln hx
  obtain ⟨hyn, hyn2, hty⟩ := hp.told hln hy
  clear ex ey hx hy
  have k0 : (0 : Int) ≤ (i : Int) := by omega
  have k1 : (i : Int) < (n : Int) := by omega
  have k2 : (0 : Int) ≤ (j : Int) := by omega
  have k3 : (j : Int) < (n : Int) := by omega
  have HI := Lib.hid (And.intro k0 (And.intro k1 (And.intro k2 k3)))
  have HT := Lib.hid (show ∀ r, (bytesBefore (keyE x) (keyE y) = true → r = true) → (bytesBefore (keyE x) (keyE y) = false → (keyE x == keyE y) = true → r = decide ((y.no : Int) < (x.no : Int))) → (bytesBefore (keyE x) (keyE y) = false → (keyE x == keyE y) = false → r = false) → r = ltE x y from fun r h1 h2 h3 => by
    rcases hb : bytesBefore (keyE x) (keyE y) with _ | _
    · rcases he : (keyE x == keyE y) with _ | _
      · rw [h3 hb he, ltE_ne hb he]
      · rw [h2 hb he, ltE_eq he]
        simp
    · rw [h1 hb, ltE_lt hb])
  obtain ⟨r, hr⟩ : ∃ r, ltE x y = r := ⟨_, rfl⟩
  rw [hr] at HT ⊢
  obtain ⟨xk, hxk⟩ : ∃ k, keyE x = k := ⟨_, rfl⟩
  obtain ⟨yk, hyk⟩ : ∃ k, keyE y = k := ⟨_, rfl⟩
  rw [hxk] at htx HT
  rw [hyk] at hty HT
  obtain ⟨xi, hxi⟩ : ∃ k : Int, (x.no : Int) = k := ⟨_, rfl⟩
  obtain ⟨yi, hyi⟩ : ∃ k : Int, (y.no : Int) = k := ⟨_, rfl⟩
  rw [hxi] at htx HT
  rw [hyi] at hty HT
  have f1 : (0 : Int) < (x.n : Int) := by omega
  have f2 : (0 : Int) < (y.n : Int) := by omega
  have HN := Lib.hid (And.intro f1 f2)
  have HX := Lib.hid htx
  have HY := Lib.hid hty
  obtain ⟨_, xb, xa, xn, xc, _⟩ := x
  obtain ⟨_, yb, ya, yn, yc, _⟩ := y
  dsimp only at HX HY HN
  clear htx hty hxn hyn hxn2 hyn2 hfew hr hxk hyk hxi hyi f1 f2 hp hln
  go_enter Try.func46, Try.ntmps46
  go_wp2_with (fail)
  refine wp_region_facts (E := Grows) [valFact (.slice (some ⟨g, 0, none⟩) n c), valFact (.int .i64 (i : Int)), valFact (.pointer (some ⟨g, i, none⟩)), valFact (.pointer (some ⟨xb, 0, none⟩)), valFact (.pointer (some ⟨xb, 0, none⟩)), valFact (.pointer (some ⟨xb, 1, none⟩)), valFact (.slice (some xa) xn xc), valFact (.pointer (some xa)), valFact (.pointer (some { block := xa.block, off := xa.off + 1 })), valFact (.string ⟨xk.toArray⟩), valFact (.slice (some ⟨g, 0, none⟩) n c), valFact (.int .i64 (j : Int)), valFact (.pointer (some ⟨g, j, none⟩)), valFact (.pointer (some ⟨yb, 0, none⟩)), valFact (.pointer (some ⟨yb, 0, none⟩)), valFact (.pointer (some ⟨yb, 1, none⟩)), valFact (.slice (some ya) yn yc), valFact (.pointer (some ya)), valFact (.pointer (some { block := ya.block, off := ya.off + 1 })), valFact (.string ⟨yk.toArray⟩), valFact (.string ⟨xk.toArray⟩), valFact (.string ⟨yk.toArray⟩)] (by kernel_rfl) (by kernel_rfl) (fun _ _ _ => Grows.trans) (grows_drew _) ?_
  refine f_val (.slice (some ⟨g, 0, none⟩) n c) (by rfl) ?_ ?_
  · intro w' hC; clear hC; go_simp
  simp only [Act.put, List.setIfInBounds_toArray, List.set_cons_zero, List.set_cons_succ]
  refine f_val (.int .i64 (i : Int)) (by rfl) ?_ ?_
  · intro w' hC; clear hC; go_simp
  simp only [Act.put, List.setIfInBounds_toArray, List.set_cons_zero, List.set_cons_succ]
  refine f_val (.pointer (some ⟨g, i, none⟩)) (by rfl) ?_ ?_
  · intro w' hC; have k0 := HI.out; clear hC; go_simp
  simp only [Act.put, List.setIfInBounds_toArray, List.set_cons_zero, List.set_cons_succ]
  refine f_val (.pointer (some ⟨xb, 0, none⟩)) (by rfl) ?_ ?_
  · intro w' hC; have q := HX.out w' (hC); have q0 := q.1; have q1 := q.2.1; have q2 := q.2.2.1; have q3 := q.2.2.2; clear hC; go_simp
  simp only [Act.put, List.setIfInBounds_toArray, List.set_cons_zero, List.set_cons_succ]
  refine f_val (.pointer (some ⟨xb, 0, none⟩)) (by rfl) ?_ ?_
  · intro w' hC; clear hC; go_simp
  simp only [Act.put, List.setIfInBounds_toArray, List.set_cons_zero, List.set_cons_succ]
  refine f_val (.pointer (some ⟨xb, 1, none⟩)) (by rfl) ?_ ?_
  · intro w' hC; clear hC; go_simp
  simp only [Act.put, List.setIfInBounds_toArray, List.set_cons_zero, List.set_cons_succ]
  refine f_val (.slice (some xa) xn xc) (by rfl) ?_ ?_
  · intro w' hC; have q := HX.out w' (hC); have q0 := q.1; have q1 := q.2.1; have q2 := q.2.2.1; have q3 := q.2.2.2; clear hC; go_simp
  simp only [Act.put, List.setIfInBounds_toArray, List.set_cons_zero, List.set_cons_succ]
  refine f_val (.pointer (some xa)) (by rfl) ?_ ?_
  · intro w' hC; clear hC; go_simp; intro hz; exfalso; have h0 := HN.out; omega
  simp only [Act.put, List.setIfInBounds_toArray, List.set_cons_zero, List.set_cons_succ]
  refine f_val (.pointer (some { block := xa.block, off := xa.off + 1 })) (by rfl) ?_ ?_
  · intro w' hC; clear hC; go_simp
  simp only [Act.put, List.setIfInBounds_toArray, List.set_cons_zero, List.set_cons_succ]
  refine f_val (.string ⟨xk.toArray⟩) (by rfl) ?_ ?_
  · intro w' hC; have q := HX.out w' (hC); have q0 := q.1; have q1 := q.2.1; have q2 := q.2.2.1; have q3 := q.2.2.2; clear hC; go_simp
  simp only [Act.put, List.setIfInBounds_toArray, List.set_cons_zero, List.set_cons_succ]
  refine f_val (.slice (some ⟨g, 0, none⟩) n c) (by rfl) ?_ ?_
  · intro w' hC; clear hC; go_simp
  simp only [Act.put, List.setIfInBounds_toArray, List.set_cons_zero, List.set_cons_succ]
  refine f_val (.int .i64 (j : Int)) (by rfl) ?_ ?_
  · intro w' hC; clear hC; go_simp
  simp only [Act.put, List.setIfInBounds_toArray, List.set_cons_zero, List.set_cons_succ]
  refine f_val (.pointer (some ⟨g, j, none⟩)) (by rfl) ?_ ?_
  · intro w' hC; have k0 := HI.out; clear hC; go_simp
  simp only [Act.put, List.setIfInBounds_toArray, List.set_cons_zero, List.set_cons_succ]
  refine f_val (.pointer (some ⟨yb, 0, none⟩)) (by rfl) ?_ ?_
  · intro w' hC; have q := HY.out w' (hC); have q0 := q.1; have q1 := q.2.1; have q2 := q.2.2.1; have q3 := q.2.2.2; clear hC; go_simp
  simp only [Act.put, List.setIfInBounds_toArray, List.set_cons_zero, List.set_cons_succ]
  refine f_val (.pointer (some ⟨yb, 0, none⟩)) (by rfl) ?_ ?_
  · intro w' hC; clear hC; go_simp
  simp only [Act.put, List.setIfInBounds_toArray, List.set_cons_zero, List.set_cons_succ]
  refine f_val (.pointer (some ⟨yb, 1, none⟩)) (by rfl) ?_ ?_
  · intro w' hC; clear hC; go_simp
  simp only [Act.put, List.setIfInBounds_toArray, List.set_cons_zero, List.set_cons_succ]
  refine f_val (.slice (some ya) yn yc) (by rfl) ?_ ?_
  · intro w' hC; have q := HY.out w' (hC); have q0 := q.1; have q1 := q.2.1; have q2 := q.2.2.1; have q3 := q.2.2.2; clear hC; go_simp
  simp only [Act.put, List.setIfInBounds_toArray, List.set_cons_zero, List.set_cons_succ]
  refine f_val (.pointer (some ya)) (by rfl) ?_ ?_
  · intro w' hC; clear hC; go_simp; intro hz; exfalso; have h0 := HN.out; omega
  simp only [Act.put, List.setIfInBounds_toArray, List.set_cons_zero, List.set_cons_succ]
  refine f_val (.pointer (some { block := ya.block, off := ya.off + 1 })) (by rfl) ?_ ?_
  · intro w' hC; clear hC; go_simp
  simp only [Act.put, List.setIfInBounds_toArray, List.set_cons_zero, List.set_cons_succ]
  refine f_val (.string ⟨yk.toArray⟩) (by rfl) ?_ ?_
  · intro w' hC; have q := HY.out w' (hC); have q0 := q.1; have q1 := q.2.1; have q2 := q.2.2.1; have q3 := q.2.2.2; clear hC; go_simp
  simp only [Act.put, List.setIfInBounds_toArray, List.set_cons_zero, List.set_cons_succ]
  refine f_val (.string ⟨xk.toArray⟩) (by rfl) ?_ ?_
  · intro w' hC; clear hC; go_simp
  simp only [Act.put, List.setIfInBounds_toArray, List.set_cons_zero, List.set_cons_succ]
  refine f_val (.string ⟨yk.toArray⟩) (by rfl) ?_ ?_
  · intro w' hC; clear hC; go_simp
  simp only [Act.put, List.setIfInBounds_toArray, List.set_cons_zero, List.set_cons_succ]
  refine wpF_end ?_
  intro w1 hC hks
  have HCw1 := Lib.hid hC
  clear hC hks
  rcases hb : bytesBefore xk yk with _ | _
  · rcases he : (xk == yk) with _ | _
    · have HC0 := Lib.hid (show Op.bytesLess xk yk = false ∧ (xk == yk) = false from ⟨(fless xk yk).trans hb, he⟩)
      have HE := Lib.hid (And.intro hb he)
      clear hb he
      go_wp2_with (fail)
      refine wp_region_facts (E := Grows) [valFact (.string ⟨xk.toArray⟩), valFact (.string ⟨yk.toArray⟩), valFact (.bool false), valFact (.bool false), valFact (.string ⟨xk.toArray⟩), valFact (.string ⟨yk.toArray⟩), valFact (.bool false), valFact (.bool false), valFact undef, valFact undef, valFact undef, valFact undef, valFact undef, valFact undef, valFact undef, valFact undef, valFact undef, valFact undef, valFact undef, valFact undef, valFact undef, valFact undef, valFact undef, valFact (.bool false), valFact (.bool false), valFact (.bool false)] (by kernel_rfl) (by kernel_rfl) (fun _ _ _ => Grows.trans) (grows_drew _) ?_
      refine f_val (.string ⟨xk.toArray⟩) (by rfl) ?_ ?_
      · intro w' hC; clear hC; go_simp
      simp only [Act.put, List.setIfInBounds_toArray, List.set_cons_zero, List.set_cons_succ]
      refine f_val (.string ⟨yk.toArray⟩) (by rfl) ?_ ?_
      · intro w' hC; clear hC; go_simp
      simp only [Act.put, List.setIfInBounds_toArray, List.set_cons_zero, List.set_cons_succ]
      refine f_val (.bool false) (by rfl) ?_ ?_
      · intro w' hC; have k0 := HC0.out.1; clear hC; go_simp
      simp only [Act.put, List.setIfInBounds_toArray, List.set_cons_zero, List.set_cons_succ]
      refine f_val (.bool false) (by rfl) ?_ ?_
      · intro w' hC; clear hC; go_simp
      simp only [Act.put, List.setIfInBounds_toArray, List.set_cons_zero, List.set_cons_succ]
      refine f_val (.string ⟨xk.toArray⟩) (by rfl) ?_ ?_
      · intro w' hC; clear hC; go_simp
      simp only [Act.put, List.setIfInBounds_toArray, List.set_cons_zero, List.set_cons_succ]
      refine f_val (.string ⟨yk.toArray⟩) (by rfl) ?_ ?_
      · intro w' hC; clear hC; go_simp
      simp only [Act.put, List.setIfInBounds_toArray, List.set_cons_zero, List.set_cons_succ]
      refine f_val (.bool false) (by rfl) ?_ ?_
      · intro w' hC; have k0 := HC0.out.2; clear hC; go_simp
      simp only [Act.put, List.setIfInBounds_toArray, List.set_cons_zero, List.set_cons_succ]
      refine f_val (.bool false) (by rfl) ?_ ?_
      · intro w' hC; clear hC; go_simp
      simp only [Act.put, List.setIfInBounds_toArray, List.set_cons_zero, List.set_cons_succ]
      refine f_skip (by rfl) ?_
      simp only [Act.put, List.setIfInBounds_toArray, List.set_cons_zero, List.set_cons_succ]
      refine f_skip (by rfl) ?_
      simp only [Act.put, List.setIfInBounds_toArray, List.set_cons_zero, List.set_cons_succ]
      refine f_skip (by rfl) ?_
      simp only [Act.put, List.setIfInBounds_toArray, List.set_cons_zero, List.set_cons_succ]
      refine f_skip (by rfl) ?_
      simp only [Act.put, List.setIfInBounds_toArray, List.set_cons_zero, List.set_cons_succ]
      refine f_skip (by rfl) ?_
      simp only [Act.put, List.setIfInBounds_toArray, List.set_cons_zero, List.set_cons_succ]
      refine f_skip (by rfl) ?_
      simp only [Act.put, List.setIfInBounds_toArray, List.set_cons_zero, List.set_cons_succ]
      refine f_skip (by rfl) ?_
      simp only [Act.put, List.setIfInBounds_toArray, List.set_cons_zero, List.set_cons_succ]
      refine f_skip (by rfl) ?_
      simp only [Act.put, List.setIfInBounds_toArray, List.set_cons_zero, List.set_cons_succ]
      refine f_skip (by rfl) ?_
      simp only [Act.put, List.setIfInBounds_toArray, List.set_cons_zero, List.set_cons_succ]
      refine f_skip (by rfl) ?_
      simp only [Act.put, List.setIfInBounds_toArray, List.set_cons_zero, List.set_cons_succ]
      refine f_skip (by rfl) ?_
      simp only [Act.put, List.setIfInBounds_toArray, List.set_cons_zero, List.set_cons_succ]
      refine f_skip (by rfl) ?_
      simp only [Act.put, List.setIfInBounds_toArray, List.set_cons_zero, List.set_cons_succ]
      refine f_skip (by rfl) ?_
      simp only [Act.put, List.setIfInBounds_toArray, List.set_cons_zero, List.set_cons_succ]
      refine f_skip (by rfl) ?_
      simp only [Act.put, List.setIfInBounds_toArray, List.set_cons_zero, List.set_cons_succ]
      refine f_skip (by rfl) ?_
      simp only [Act.put, List.setIfInBounds_toArray, List.set_cons_zero, List.set_cons_succ]
      refine f_val (.bool false) (by rfl) ?_ ?_
      · intro w' hC; clear hC; go_simp
      simp only [Act.put, List.setIfInBounds_toArray, List.set_cons_zero, List.set_cons_succ]
      refine f_val (.bool false) (by rfl) ?_ ?_
      · intro w' hC; clear hC; go_simp
      simp only [Act.put, List.setIfInBounds_toArray, List.set_cons_zero, List.set_cons_succ]
      refine f_val (.bool false) (by rfl) ?_ ?_
      · intro w' hC; clear hC; go_simp
      simp only [Act.put, List.setIfInBounds_toArray, List.set_cons_zero, List.set_cons_succ]
      refine wpF_end ?_
      intro w2 hC hks
      have HCw2 := Lib.hid hC
      clear hC hks
      go_wp2_with (fail)
      go_ret
      exact ⟨ret_bool (HT.out false (fun q => by rw [HE.out.1] at q; cases q) (fun _ q => by rw [HE.out.2] at q; cases q) fun _ _ => rfl), Grows.trans HCw1.out HCw2.out⟩
    · have HC0 := Lib.hid (show Op.bytesLess xk yk = false ∧ (xk == yk) = true from ⟨(fless xk yk).trans hb, he⟩)
      have HE := Lib.hid (And.intro hb he)
      clear hb he
      go_wp2_with (fail)
      refine wp_region_facts (E := Grows) [valFact (.string ⟨xk.toArray⟩), valFact (.string ⟨yk.toArray⟩), valFact (.bool false), valFact (.bool false), valFact (.string ⟨xk.toArray⟩), valFact (.string ⟨yk.toArray⟩), valFact (.bool true), valFact (.bool true), valFact (.slice (some ⟨g, 0, none⟩) n c), valFact (.int .i64 (i : Int)), valFact (.pointer (some ⟨g, i, none⟩)), valFact (.pointer (some ⟨xb, 0, none⟩)), valFact (.pointer (some ⟨xb, 0, none⟩)), valFact (.pointer (some ⟨xb, 0, none⟩)), valFact (.int .i64 xi), valFact (.slice (some ⟨g, 0, none⟩) n c), valFact (.int .i64 (j : Int)), valFact (.pointer (some ⟨g, j, none⟩)), valFact (.pointer (some ⟨yb, 0, none⟩)), valFact (.pointer (some ⟨yb, 0, none⟩)), valFact (.pointer (some ⟨yb, 0, none⟩)), valFact (.int .i64 yi), valFact (.bool (decide (yi < xi))), valFact (.bool (decide (yi < xi))), valFact (.bool (decide (yi < xi))), valFact (.bool (decide (yi < xi)))] (by kernel_rfl) (by kernel_rfl) (fun _ _ _ => Grows.trans) (grows_drew _) ?_
      refine f_val (.string ⟨xk.toArray⟩) (by rfl) ?_ ?_
      · intro w' hC; clear hC; go_simp
      simp only [Act.put, List.setIfInBounds_toArray, List.set_cons_zero, List.set_cons_succ]
      refine f_val (.string ⟨yk.toArray⟩) (by rfl) ?_ ?_
      · intro w' hC; clear hC; go_simp
      simp only [Act.put, List.setIfInBounds_toArray, List.set_cons_zero, List.set_cons_succ]
      refine f_val (.bool false) (by rfl) ?_ ?_
      · intro w' hC; have k0 := HC0.out.1; clear hC; go_simp
      simp only [Act.put, List.setIfInBounds_toArray, List.set_cons_zero, List.set_cons_succ]
      refine f_val (.bool false) (by rfl) ?_ ?_
      · intro w' hC; clear hC; go_simp
      simp only [Act.put, List.setIfInBounds_toArray, List.set_cons_zero, List.set_cons_succ]
      refine f_val (.string ⟨xk.toArray⟩) (by rfl) ?_ ?_
      · intro w' hC; clear hC; go_simp
      simp only [Act.put, List.setIfInBounds_toArray, List.set_cons_zero, List.set_cons_succ]
      refine f_val (.string ⟨yk.toArray⟩) (by rfl) ?_ ?_
      · intro w' hC; clear hC; go_simp
      simp only [Act.put, List.setIfInBounds_toArray, List.set_cons_zero, List.set_cons_succ]
      refine f_val (.bool true) (by rfl) ?_ ?_
      · intro w' hC; have k0 := HC0.out.2; clear hC; go_simp
      simp only [Act.put, List.setIfInBounds_toArray, List.set_cons_zero, List.set_cons_succ]
      refine f_val (.bool true) (by rfl) ?_ ?_
      · intro w' hC; clear hC; go_simp
      simp only [Act.put, List.setIfInBounds_toArray, List.set_cons_zero, List.set_cons_succ]
      refine f_val (.slice (some ⟨g, 0, none⟩) n c) (by rfl) ?_ ?_
      · intro w' hC; clear hC; go_simp
      simp only [Act.put, List.setIfInBounds_toArray, List.set_cons_zero, List.set_cons_succ]
      refine f_val (.int .i64 (i : Int)) (by rfl) ?_ ?_
      · intro w' hC; clear hC; go_simp
      simp only [Act.put, List.setIfInBounds_toArray, List.set_cons_zero, List.set_cons_succ]
      refine f_val (.pointer (some ⟨g, i, none⟩)) (by rfl) ?_ ?_
      · intro w' hC; have k0 := HI.out; clear hC; go_simp
      simp only [Act.put, List.setIfInBounds_toArray, List.set_cons_zero, List.set_cons_succ]
      refine f_val (.pointer (some ⟨xb, 0, none⟩)) (by rfl) ?_ ?_
      · intro w' hC; have q := HX.out w' (Grows.trans HCw1.out hC); have q0 := q.1; have q1 := q.2.1; have q2 := q.2.2.1; have q3 := q.2.2.2; clear hC; go_simp
      simp only [Act.put, List.setIfInBounds_toArray, List.set_cons_zero, List.set_cons_succ]
      refine f_val (.pointer (some ⟨xb, 0, none⟩)) (by rfl) ?_ ?_
      · intro w' hC; clear hC; go_simp
      simp only [Act.put, List.setIfInBounds_toArray, List.set_cons_zero, List.set_cons_succ]
      refine f_val (.pointer (some ⟨xb, 0, none⟩)) (by rfl) ?_ ?_
      · intro w' hC; clear hC; go_simp
      simp only [Act.put, List.setIfInBounds_toArray, List.set_cons_zero, List.set_cons_succ]
      refine f_val (.int .i64 xi) (by rfl) ?_ ?_
      · intro w' hC; have q := HX.out w' (Grows.trans HCw1.out hC); have q0 := q.1; have q1 := q.2.1; have q2 := q.2.2.1; have q3 := q.2.2.2; clear hC; go_simp
      simp only [Act.put, List.setIfInBounds_toArray, List.set_cons_zero, List.set_cons_succ]
      refine f_val (.slice (some ⟨g, 0, none⟩) n c) (by rfl) ?_ ?_
      · intro w' hC; clear hC; go_simp
      simp only [Act.put, List.setIfInBounds_toArray, List.set_cons_zero, List.set_cons_succ]
      refine f_val (.int .i64 (j : Int)) (by rfl) ?_ ?_
      · intro w' hC; clear hC; go_simp
      simp only [Act.put, List.setIfInBounds_toArray, List.set_cons_zero, List.set_cons_succ]
      refine f_val (.pointer (some ⟨g, j, none⟩)) (by rfl) ?_ ?_
      · intro w' hC; have k0 := HI.out; clear hC; go_simp
      simp only [Act.put, List.setIfInBounds_toArray, List.set_cons_zero, List.set_cons_succ]
      refine f_val (.pointer (some ⟨yb, 0, none⟩)) (by rfl) ?_ ?_
      · intro w' hC; have q := HY.out w' (Grows.trans HCw1.out hC); have q0 := q.1; have q1 := q.2.1; have q2 := q.2.2.1; have q3 := q.2.2.2; clear hC; go_simp
      simp only [Act.put, List.setIfInBounds_toArray, List.set_cons_zero, List.set_cons_succ]
      refine f_val (.pointer (some ⟨yb, 0, none⟩)) (by rfl) ?_ ?_
      · intro w' hC; clear hC; go_simp
      simp only [Act.put, List.setIfInBounds_toArray, List.set_cons_zero, List.set_cons_succ]
      refine f_val (.pointer (some ⟨yb, 0, none⟩)) (by rfl) ?_ ?_
      · intro w' hC; clear hC; go_simp
      simp only [Act.put, List.setIfInBounds_toArray, List.set_cons_zero, List.set_cons_succ]
      refine f_val (.int .i64 yi) (by rfl) ?_ ?_
      · intro w' hC; have q := HY.out w' (Grows.trans HCw1.out hC); have q0 := q.1; have q1 := q.2.1; have q2 := q.2.2.1; have q3 := q.2.2.2; clear hC; go_simp
      simp only [Act.put, List.setIfInBounds_toArray, List.set_cons_zero, List.set_cons_succ]
      refine f_val (.bool (decide (yi < xi))) (by rfl) ?_ ?_
      · intro w' hC; clear hC; go_simp
      simp only [Act.put, List.setIfInBounds_toArray, List.set_cons_zero, List.set_cons_succ]
      refine f_val (.bool (decide (yi < xi))) (by rfl) ?_ ?_
      · intro w' hC; clear hC; go_simp
      simp only [Act.put, List.setIfInBounds_toArray, List.set_cons_zero, List.set_cons_succ]
      refine f_val (.bool (decide (yi < xi))) (by rfl) ?_ ?_
      · intro w' hC; clear hC; go_simp
      simp only [Act.put, List.setIfInBounds_toArray, List.set_cons_zero, List.set_cons_succ]
      refine f_val (.bool (decide (yi < xi))) (by rfl) ?_ ?_
      · intro w' hC; clear hC; go_simp
      simp only [Act.put, List.setIfInBounds_toArray, List.set_cons_zero, List.set_cons_succ]
      refine wpF_end ?_
      intro w2 hC hks
      have HCw2 := Lib.hid hC
      clear hC hks
      go_wp2_with (fail)
      go_ret
      exact ⟨ret_bool (HT.out _ (fun q => by rw [HE.out.1] at q; cases q) (fun _ _ => rfl) fun _ q => by rw [HE.out.2] at q; cases q), Grows.trans HCw1.out HCw2.out⟩
  · have HC0 := Lib.hid (show Op.bytesLess xk yk = true ∧ True from ⟨(fless xk yk).trans hb, trivial⟩)
    have HE := Lib.hid hb
    clear hb
    go_wp2_with (fail)
    refine wp_region_facts (E := Grows) [valFact (.string ⟨xk.toArray⟩), valFact (.string ⟨yk.toArray⟩), valFact (.bool true), valFact (.bool true), valFact undef, valFact undef, valFact undef, valFact undef, valFact undef, valFact undef, valFact undef, valFact undef, valFact undef, valFact undef, valFact undef, valFact undef, valFact undef, valFact undef, valFact undef, valFact undef, valFact undef, valFact undef, valFact undef, valFact undef, valFact (.bool true), valFact (.bool true)] (by kernel_rfl) (by kernel_rfl) (fun _ _ _ => Grows.trans) (grows_drew _) ?_
    refine f_val (.string ⟨xk.toArray⟩) (by rfl) ?_ ?_
    · intro w' hC; clear hC; go_simp
    simp only [Act.put, List.setIfInBounds_toArray, List.set_cons_zero, List.set_cons_succ]
    refine f_val (.string ⟨yk.toArray⟩) (by rfl) ?_ ?_
    · intro w' hC; clear hC; go_simp
    simp only [Act.put, List.setIfInBounds_toArray, List.set_cons_zero, List.set_cons_succ]
    refine f_val (.bool true) (by rfl) ?_ ?_
    · intro w' hC; have k0 := HC0.out.1; clear hC; go_simp
    simp only [Act.put, List.setIfInBounds_toArray, List.set_cons_zero, List.set_cons_succ]
    refine f_val (.bool true) (by rfl) ?_ ?_
    · intro w' hC; clear hC; go_simp
    simp only [Act.put, List.setIfInBounds_toArray, List.set_cons_zero, List.set_cons_succ]
    refine f_skip (by rfl) ?_
    simp only [Act.put, List.setIfInBounds_toArray, List.set_cons_zero, List.set_cons_succ]
    refine f_skip (by rfl) ?_
    simp only [Act.put, List.setIfInBounds_toArray, List.set_cons_zero, List.set_cons_succ]
    refine f_skip (by rfl) ?_
    simp only [Act.put, List.setIfInBounds_toArray, List.set_cons_zero, List.set_cons_succ]
    refine f_skip (by rfl) ?_
    simp only [Act.put, List.setIfInBounds_toArray, List.set_cons_zero, List.set_cons_succ]
    refine f_skip (by rfl) ?_
    simp only [Act.put, List.setIfInBounds_toArray, List.set_cons_zero, List.set_cons_succ]
    refine f_skip (by rfl) ?_
    simp only [Act.put, List.setIfInBounds_toArray, List.set_cons_zero, List.set_cons_succ]
    refine f_skip (by rfl) ?_
    simp only [Act.put, List.setIfInBounds_toArray, List.set_cons_zero, List.set_cons_succ]
    refine f_skip (by rfl) ?_
    simp only [Act.put, List.setIfInBounds_toArray, List.set_cons_zero, List.set_cons_succ]
    refine f_skip (by rfl) ?_
    simp only [Act.put, List.setIfInBounds_toArray, List.set_cons_zero, List.set_cons_succ]
    refine f_skip (by rfl) ?_
    simp only [Act.put, List.setIfInBounds_toArray, List.set_cons_zero, List.set_cons_succ]
    refine f_skip (by rfl) ?_
    simp only [Act.put, List.setIfInBounds_toArray, List.set_cons_zero, List.set_cons_succ]
    refine f_skip (by rfl) ?_
    simp only [Act.put, List.setIfInBounds_toArray, List.set_cons_zero, List.set_cons_succ]
    refine f_skip (by rfl) ?_
    simp only [Act.put, List.setIfInBounds_toArray, List.set_cons_zero, List.set_cons_succ]
    refine f_skip (by rfl) ?_
    simp only [Act.put, List.setIfInBounds_toArray, List.set_cons_zero, List.set_cons_succ]
    refine f_skip (by rfl) ?_
    simp only [Act.put, List.setIfInBounds_toArray, List.set_cons_zero, List.set_cons_succ]
    refine f_skip (by rfl) ?_
    simp only [Act.put, List.setIfInBounds_toArray, List.set_cons_zero, List.set_cons_succ]
    refine f_skip (by rfl) ?_
    simp only [Act.put, List.setIfInBounds_toArray, List.set_cons_zero, List.set_cons_succ]
    refine f_skip (by rfl) ?_
    simp only [Act.put, List.setIfInBounds_toArray, List.set_cons_zero, List.set_cons_succ]
    refine f_skip (by rfl) ?_
    simp only [Act.put, List.setIfInBounds_toArray, List.set_cons_zero, List.set_cons_succ]
    refine f_skip (by rfl) ?_
    simp only [Act.put, List.setIfInBounds_toArray, List.set_cons_zero, List.set_cons_succ]
    refine f_val (.bool true) (by rfl) ?_ ?_
    · intro w' hC; clear hC; go_simp
    simp only [Act.put, List.setIfInBounds_toArray, List.set_cons_zero, List.set_cons_succ]
    refine f_val (.bool true) (by rfl) ?_ ?_
    · intro w' hC; clear hC; go_simp
    simp only [Act.put, List.setIfInBounds_toArray, List.set_cons_zero, List.set_cons_succ]
    refine wpF_end ?_
    intro w2 hC hks
    have HCw2 := Lib.hid hC
    clear hC hks
    go_wp2_with (fail)
    go_ret
    exact ⟨ret_bool (HT.out true (fun _ => rfl) (fun q => by rw [HE.out] at q; cases q) fun q => by rw [HE.out] at q; cases q), Grows.trans HCw1.out HCw2.out⟩

/-! Swap. -/
section
variable {own : Nat → Prop} {P : Program} {ops : Array Oper} {W : World} {Q : Act → World → Prop} {o : Oper} {rest : List Oper} {js : List (Job Grows (Spares own))} {ks : Known} {C : World → Prop} {a : Act}
/-- A store. -/
theorem j_storeE {C' : World → Prop} {hC' : ∀ w w', C' w → Grows w w' → C' w'} (hw : Region.wanted o (yielded ops a.tmps) = true)
    (h1 : ∀ w, Spares own W w → C w → ∃ w', (execOp a.eval o).run P w = .ok .skip w' ∧ Spares own w w' ∧ C' w') (h2 : wpJ P ops W Q rest js ks C' (a.put o.dst undef)) :
    wpJ P ops W Q (o :: rest) (wrJob own undef C' hC' :: js) ks C a := by
  unfold wpJ jStep
  rw [if_pos hw]
  refine ⟨fun w hW _ hC => ?_, fun x => wpJ_more _ _ ks _ _ _ (fun k hk => List.mem_cons_of_mem _ hk) h2⟩
  obtain ⟨w', hr, hs, hc⟩ := h1 w hW (hC rfl)
  rw [hr]
  exact ⟨(), rfl, trivial, fun _ => ⟨hs, hc⟩, fun h => by cases h⟩
end
theorem put1_own {w : World} {base g n c i : Nat} {l : List El} (h : w.ownsRow base 51 1 (.slice (some ⟨g, 0, none⟩) n c) n (l.flatMap elE)) {y : El} {yb : Nat} (hy : y.blk = yb) :
    (w.setCell ⟨g, i, none⟩ (.pointer (some ⟨yb, 0, none⟩))).ownsRow base 51 1 (.slice (some ⟨g, 0, none⟩) n c) n ((l.set i y).flatMap elE) := by
  subst hy
  rw [flat_el, List.map_set]
  rw [flat_el] at h
  exact (World.ownsRow.stored h _ _).1
theorem run_store1 {w : World} {a : Act} {o : Oper} {p v : Operand} {g t b : Nat} {u : Value} (ho : o.op = .store 51 p v) (hp : a.eval p = .pointer (some ⟨g, t, none⟩)) (hv : a.eval v = .pointer (some ⟨b, 0, none⟩)) (h0 : w.cell? ⟨g, t, none⟩ = some u) (hf : w.frozen? ⟨g, t, none⟩ = false) :
    (execOp a.eval o).run Try.prog w = .ok .skip (w.setCell ⟨g, t, none⟩ (.pointer (some ⟨b, 0, none⟩))) := by
  have hst : (Instr.storeAt 51 (.pointer (some ⟨g, t, none⟩)) (.pointer (some ⟨b, 0, none⟩))).run Try.prog w = .ok () (w.setCell ⟨g, t, none⟩ (.pointer (some ⟨b, 0, none⟩))) := by
    clear ho hp hv
    go_simp
  unfold execOp
  simp only [ho, hp, hv, Sem.run_bind, Sem.run_pure, hst, Result.andThen_ok]
set_option maxRecDepth 100000 in
set_option maxHeartbeats 4000000 in
theorem swap_any (base g n c : Nat) (l : List El) (w : World) (h : w.ownsRow base 51 1 (.slice (some ⟨g, 0, none⟩) n c) n (l.flatMap elE)) (i j : Nat) (hi : i < n) (hj : j < n) (hn : n ≤ 1000000) :
    Calls Try.prog 49 #[.slice (some ⟨g, 0, none⟩) n c, .int .i64 (i : Int), .int .i64 (j : Int)] w fun e w' => e = .returned (.tuple #[]) ∧ w'.ownsRow base 51 1 (.slice (some ⟨g, 0, none⟩) n c) n ((swp l i j).flatMap elE) ∧ Spares (fun k => k = g) w w' := by
  have hlen : l.length = n := by have := h.1; rw [flat_len1] at this; omega
  obtain ⟨x, hx⟩ : ∃ x, l[i]? = some x := ⟨_, List.getElem?_eq_getElem (by omega)⟩
  obtain ⟨y, hy⟩ : ∃ x, l[j]? = some x := ⟨_, List.getElem?_eq_getElem (by omega)⟩
  have ex : l[i]! = x := by rw [getElem!_def, hx]
  have ey : l[j]! = y := by rw [getElem!_def, hy]
  have HS := Lib.hid (show swp l i j = (l.set i y).set j x by unfold swp; rw [ex, ey])
  have HX := Lib.hid (fun w (hw : World.ownsRow w base 51 1 (.slice (some ⟨g, 0, none⟩) n c) n (l.flatMap elE)) => cell1 hw hx)
  have HY := Lib.hid (fun w (hw : World.ownsRow w base 51 1 (.slice (some ⟨g, 0, none⟩) n c) n (l.flatMap elE)) => cell1 hw hy)
  have hl2 : ((l.set i y)[j]?).isSome = true := by rw [List.getElem?_eq_getElem (by rw [List.length_set]; omega)]; rfl
  obtain ⟨z, hz⟩ := Option.isSome_iff_exists.1 hl2
  have HZ := Lib.hid (fun w (hw : World.ownsRow w base 51 1 (.slice (some ⟨g, 0, none⟩) n c) n ((l.set i y).flatMap elE)) => cell1 hw hz)
  have k0 : (0 : Int) ≤ (i : Int) := by omega
  have k1 : (i : Int) < (n : Int) := by omega
  have k2 : (0 : Int) ≤ (j : Int) := by omega
  have k3 : (j : Int) < (n : Int) := by omega
  have HI := Lib.hid (And.intro k0 (And.intro k1 (And.intro k2 k3)))
  have HO := Lib.hid h
  obtain ⟨xb, hxb⟩ : ∃ b, x.blk = b := ⟨_, rfl⟩
  obtain ⟨yb, hyb⟩ : ∃ b, y.blk = b := ⟨_, rfl⟩
  unfold elV at HX HY HZ
  rw [hxb] at HX
  rw [hyb] at HY
  obtain ⟨zb, hzb⟩ : ∃ b, z.blk = b := ⟨_, rfl⟩
  rw [hzb] at HZ
  have HXB := Lib.hid hxb
  have HYB := Lib.hid hyb
  clear h ex ey hx hy hz hl2 hlen hxb hyb hzb
  go_enter Try.func49, Try.ntmps49
  refine wp_region_jobs (G := Grows) (E := Spares (fun k => k = g)) 14 [valJob (fun k => k = g) (.slice (some ⟨g, 0, none⟩) n c), valJob (fun k => k = g) (.int .i64 (i : Int)), valJob (fun k => k = g) (.slice (some ⟨g, 0, none⟩) n c), valJob (fun k => k = g) (.int .i64 (j : Int)), valJob (fun k => k = g) (.slice (some ⟨g, 0, none⟩) n c), valJob (fun k => k = g) (.int .i64 (j : Int)), valJob (fun k => k = g) (.pointer (some ⟨g, j, none⟩)), rdJob (fun k => k = g) (.pointer (some ⟨yb, 0, none⟩)), valJob (fun k => k = g) (.slice (some ⟨g, 0, none⟩) n c), valJob (fun k => k = g) (.int .i64 (i : Int)), valJob (fun k => k = g) (.pointer (some ⟨g, i, none⟩)), rdJob (fun k => k = g) (.pointer (some ⟨xb, 0, none⟩)), valJob (fun k => k = g) (.pointer (some ⟨g, i, none⟩)), wrJob (fun k => k = g) undef (fun w' => w'.ownsRow base 51 1 (.slice (some ⟨g, 0, none⟩) n c) n ((l.set i y).flatMap elE)) (fun _ _ h hg => owned_grow h hg)] [(false, false), (false, false), (false, false), (false, false), (false, false), (false, false), (false, false), (true, false), (false, false), (false, false), (false, false), (true, false), (false, false), (true, true)] (fun w' => w'.ownsRow base 51 1 (.slice (some ⟨g, 0, none⟩) n c) n ((l).flatMap elE)) rfl mixed (by kernel_rfl) (fun _ _ => Spares.grows) (fun _ _ _ => Spares.trans) (spares_drew _ _) (owned_grow HO.out (grows_drew w)) (fun _ _ h hg => owned_grow h hg) ?_
  simp only [List.take_succ_cons, List.take_zero, List.drop_succ_cons, List.drop_zero]
  refine j_val (.slice (some ⟨g, 0, none⟩) n c) (by rfl) ?_ ?_
  · intro w' hC; clear hC; go_simp
  simp only [Act.put, List.setIfInBounds_toArray, List.set_cons_zero, List.set_cons_succ]
  refine j_val (.int .i64 (i : Int)) (by rfl) ?_ ?_
  · intro w' hC; clear hC; go_simp
  simp only [Act.put, List.setIfInBounds_toArray, List.set_cons_zero, List.set_cons_succ]
  refine j_val (.slice (some ⟨g, 0, none⟩) n c) (by rfl) ?_ ?_
  · intro w' hC; clear hC; go_simp
  simp only [Act.put, List.setIfInBounds_toArray, List.set_cons_zero, List.set_cons_succ]
  refine j_val (.int .i64 (j : Int)) (by rfl) ?_ ?_
  · intro w' hC; clear hC; go_simp
  simp only [Act.put, List.setIfInBounds_toArray, List.set_cons_zero, List.set_cons_succ]
  refine j_val (.slice (some ⟨g, 0, none⟩) n c) (by rfl) ?_ ?_
  · intro w' hC; clear hC; go_simp
  simp only [Act.put, List.setIfInBounds_toArray, List.set_cons_zero, List.set_cons_succ]
  refine j_val (.int .i64 (j : Int)) (by rfl) ?_ ?_
  · intro w' hC; clear hC; go_simp
  simp only [Act.put, List.setIfInBounds_toArray, List.set_cons_zero, List.set_cons_succ]
  refine j_val (.pointer (some ⟨g, j, none⟩)) (by rfl) ?_ ?_
  · intro w' hC; have k0 := HI.out; clear hC; go_simp
  simp only [Act.put, List.setIfInBounds_toArray, List.set_cons_zero, List.set_cons_succ]
  refine j_read (.pointer (some ⟨yb, 0, none⟩)) (by rfl) ?_ ?_
  · intro w' hC hcls; have q := HY.out w' hcls; clear hC hcls; go_simp
  simp only [Act.put, List.setIfInBounds_toArray, List.set_cons_zero, List.set_cons_succ]
  refine j_val (.slice (some ⟨g, 0, none⟩) n c) (by rfl) ?_ ?_
  · intro w' hC; clear hC; go_simp
  simp only [Act.put, List.setIfInBounds_toArray, List.set_cons_zero, List.set_cons_succ]
  refine j_val (.int .i64 (i : Int)) (by rfl) ?_ ?_
  · intro w' hC; clear hC; go_simp
  simp only [Act.put, List.setIfInBounds_toArray, List.set_cons_zero, List.set_cons_succ]
  refine j_val (.pointer (some ⟨g, i, none⟩)) (by rfl) ?_ ?_
  · intro w' hC; have k0 := HI.out; clear hC; go_simp
  simp only [Act.put, List.setIfInBounds_toArray, List.set_cons_zero, List.set_cons_succ]
  refine j_read (.pointer (some ⟨xb, 0, none⟩)) (by rfl) ?_ ?_
  · intro w' hC hcls; have q := HX.out w' hcls; clear hC hcls; go_simp
  simp only [Act.put, List.setIfInBounds_toArray, List.set_cons_zero, List.set_cons_succ]
  refine j_val (.pointer (some ⟨g, i, none⟩)) (by rfl) ?_ ?_
  · intro w' hC; have k0 := HI.out; clear hC; go_simp
  simp only [Act.put, List.setIfInBounds_toArray, List.set_cons_zero, List.set_cons_succ]
  refine j_storeE (by rfl) (fun w' hC hcls => ⟨w'.setCell ⟨g, i, none⟩ (.pointer (some ⟨yb, 0, none⟩)), ?_, Spares.setCell (own := fun k => k = g) (p := ⟨g, i, none⟩) (Spares.refl _ _) rfl _, put1_own hcls HYB.out⟩) ?_
  · exact run_store1 rfl rfl rfl (HX.out w' hcls) (hcls.frozenAt i)
  simp only [Act.put, List.setIfInBounds_toArray, List.set_cons_zero, List.set_cons_succ]
  refine wpJ_end ?_
  intro w1 hC hks hcls
  have HCw1 := Lib.hid hC
  have HLw1 := Lib.hid hcls
  clear hC hks hcls
  have q := HZ.out w1 HLw1.out
  have f0 := HLw1.out.frozenAt j
  go_wp2_with (fail)
  go_end0
  refine ⟨rfl, ?_, HCw1.out.trans (Spares.setCell (own := fun k => k = g) (p := ⟨g, j, none⟩) (Spares.refl _ _) rfl _)⟩
  rw [HS.out]
  exact put1_own HLw1.out HXB.out
end Go.Proofs.Ytnnkioekjobbmaa
