/-
  The document's answer to book: Worst.
-/
import Derived.Test.YtlldcogkcjnejaaRbDrop
namespace Go.Proofs.Ytlldcogkcjnejaa
open Go.RowKit Go.Shelf Go.Maps Go.Sort
set_option linter.unusedVariables false
set_option linter.unusedSimpArgs false
attribute [local irreducible] wpF

theorem Uss.off {w w' : World} {c n : Nat} {A : Option Addr} {l : List Us} {own : Nat → Prop} (h : Uss w A n c l) (hs : Spares own w w') (h2 : ∀ ad, A = some ad → ¬ own ad.block) : Uss w' A n c l := by
  refine ⟨h.len, h.cap, h.bare, h.row.len, fun j v hj => ?_⟩
  obtain ⟨ad, e1, e2, e3⟩ := h.row.spot j v hj
  refine ⟨ad, e1, Nat.lt_of_lt_of_le e2 hs.size, ?_⟩
  have hb := hs.same _ e2 (h2 ad e1)
  unfold World.cell? at e3 ⊢
  rw [add_block] at *
  rw [hb]
  exact e3
theorem sel_step {left : List Us} (hr : RiseU left) {k0 i : Nat} {x y : Us} (hx : left[i]? = some x) (hy : left[k0]? = some y) (hki : k0 < i) (hM : ∀ j, j < i → ∀ u, left[j]? = some u → ltU u y = false) :
    (deadU y < deadU x → ∀ j, j < i + 1 → ∀ u, left[j]? = some u → ltU u x = false) ∧ (¬ deadU y < deadU x → ∀ j, j < i + 1 → ∀ u, left[j]? = some u → ltU u y = false) := by
  have hseg : y.seg < x.seg := by
    have h1 := List.pairwise_iff_getElem.1 hr k0 i (List.getElem?_eq_some_iff.1 hy).1 (List.getElem?_eq_some_iff.1 hx).1 hki
    rw [(List.getElem?_eq_some_iff.1 hy).2, (List.getElem?_eq_some_iff.1 hx).2] at h1
    exact h1
  refine ⟨fun hd j hj u hu => ?_, fun hd j hj u hu => ?_⟩
  · by_cases e : j = i
    · subst e
      rw [hx] at hu
      injection hu with hu
      subst hu
      exact swoU.irrefl _
    · have h1 := hM j (by omega) u hu
      unfold ltU at *
      rw [decide_eq_false_iff_not] at *
      omega
  · by_cases e : j = i
    · subst e
      rw [hx] at hu
      injection hu with hu
      subst hu
      unfold ltU
      rw [decide_eq_false_iff_not]
      omega
    · exact hM j (by omega) u hu
theorem take_out {l : List Us} {j : Nat} {x : Us} (hj : l[j]? = some x) : l.Perm (x :: (l.take j ++ l.drop (j + 1))) ∧ (l.take j ++ l.drop (j + 1)).Sublist l := by
  have hjl := (List.getElem?_eq_some_iff.1 hj).1
  have he : l = l.take j ++ (x :: l.drop (j + 1)) := by
    have h1 : l.drop j = x :: l.drop (j + 1) := by
      rw [List.drop_eq_getElem_cons hjl]
      congr 1
      have := hj
      rw [List.getElem?_eq_getElem hjl] at this
      exact Option.some.inj this
    rw [← h1, List.take_append_drop]
  constructor
  · conv => lhs; rw [he]
    exact List.perm_middle
  · conv => rhs; rw [he]
    exact List.Sublist.append_left (List.sublist_cons_self _ _) _
set_option maxRecDepth 100000 in
set_option maxHeartbeats 8000000 in
theorem rworst_use {q c : Nat} {A : Option Addr} {l : List Us} {w : World} (h : RbAt w q A c l) {M : Nat} (hok : UOk M 1000000 l) :
    Calls Try.prog 27 #[.pointer (some ⟨q, 0, none⟩)] w fun e w' => ∃ A' c' ws, e = .returned (.slice A' ws.length c') ∧ Worst l ws ∧ w'.ownsRow w.heap.size 3 1 (.slice A' ws.length c') ws.length (ws.flatMap segV) ∧ Grows w w' := by
  have HALL := Lib.hid (rall_use h hok.few)
  have HX := Lib.hid hok
  obtain ⟨i0, hi0, hz0, hz1, hz2⟩ := info_of infoInt
  have HI := Lib.hid (And.intro hi0 (And.intro hz0 (And.intro hz1 hz2)))
  clear h hok hi0 hz0 hz1 hz2
  go_enter Try.func27, Try.ntmps27
  go_wp2_with (fail)
  refine HALL.out.mono ?_
  rintro e w1 ⟨A1, c1, rfl, ho1, hg1⟩
  have H1 := Lib.hid (show Uss w1 A1 l.length c1 l ∧ Grows w w1 from ⟨Rs.owned usL rfl ho1, hg1⟩)
  clear ho1 hg1 HALL
  go_wp2_with (fail)
  go_loopw [3, 4, 5, 6] (fun a b _ _ wr => ∃ (left ws : List Us) (A1 : Option Addr) (c1 : Nat) (A2 : Option Addr) (c2 : Nat), a = .slice A1 left.length c1 ∧ b = .slice A2 ws.length c2 ∧ Hid (Uss wr A1 left.length c1 left ∧ (∀ ad, A1 = some ad → (Value.slice A2 ws.length c2).ownBlock ≠ some ad.block)) ∧ Hid (wr.ownsRow w.heap.size 3 1 (.slice A2 ws.length c2) ws.length (ws.flatMap segV)) ∧ Hid ((ws ++ left).Perm l ∧ RiseU left ∧ (ws.Pairwise fun x y => ltU y x = false) ∧ ∀ y ∈ left, ∀ x ∈ ws, ltU y x = false) ∧ Hid (Grows w wr)) (fun a _ _ _ _ => lenOf a)
  case atStart => exact ⟨l, [], A1, c1, none, 0, rfl, rfl, Lib.hid ⟨H1.out.1, fun _ _ h => by simp [Value.ownBlock] at h⟩, Lib.hid (World.ownsRow_nil _ _ _ _), Lib.hid ⟨by simp, HX.out.rise, List.Pairwise.nil, fun _ _ _ h => by cases h⟩, Lib.hid H1.out.2⟩
  case round =>
    obtain ⟨left, ws, A1, c1, A2, c2, rfl, rfl, HL, HO, HP, HG⟩ := hrel
    obtain ⟨n, hn⟩ : ∃ n, left.length = n := ⟨_, rfl⟩
    obtain ⟨k, hk⟩ : ∃ k, ws.length = k := ⟨_, rfl⟩
    have hkl : k + n = l.length := by rw [← hn, ← hk, ← List.length_append, HP.out.1.length_eq]
    have hfew := HX.out.few
    rw [hn, hk] at HL
    rw [hk] at HO
    have HN := Lib.hid (show left.length = n ∧ ws.length = k ∧ k + n ≤ 1000000 from ⟨hn, hk, by omega⟩)
    rw [hn, hk]
    clear hn hk hkl hfew
    by_cases hz : n = 0
    · subst hz
      have HE := Lib.hid (show left = [] from List.eq_nil_of_length_eq_zero HN.out.1)
      go_wp2_with (fail)
      go_ret
      have hpm := HP.out.1
      rw [HE.out, List.append_nil] at hpm
      have ho := HO.out
      rw [← HN.out.2.1] at ho
      exact ⟨A2, c2, ws, by rw [HN.out.2.1]; rfl, ⟨hpm, HP.out.2.2.1⟩, ho, HG.out⟩
    have hpos : (0 : Int) < (n : Int) := by omega
    have HZ := Lib.hid hz
    clear hz
    go_wp2_with (fail)
    have hdn : decide (0 < n) = true := decide_eq_true (by omega)
    rw [hdn]
    clear hpos hdn
    go_loopw [5, 6] (fun vk vi w2 => ∃ (k0 i : Nat) (y : Us), vk = .int .i64 (k0 : Int) ∧ vi = .int .i64 (i : Int) ∧ Hid (k0 < i ∧ i ≤ n) ∧ Hid (left[k0]? = some y ∧ ∀ j, j < i → ∀ u, left[j]? = some u → ltU u y = false) ∧ Hid (Grows wr w2)) (fun _ vi _ => n - (intOf vi).toNat)
    case atStart =>
      have h0 : 0 < left.length := by have := HZ.out; have := HN.out.1; omega
      refine ⟨0, 1, left[0], rfl, rfl, Lib.hid ⟨by omega, by have := HZ.out; omega⟩, Lib.hid ⟨List.getElem?_eq_getElem h0, fun j hj u hu => ?_⟩, Lib.hid (Grows.refl _)⟩
      obtain rfl : j = 0 := by omega
      rw [List.getElem?_eq_getElem h0] at hu
      injection hu with hu
      rw [hu]
      exact swoU.irrefl _
    case round =>
    obtain ⟨k0, i, y, rfl, rfl, HKN, HM, HG2⟩ := hrel
    obtain ⟨ad, y', hA, hy, hbl, hcy⟩ := Uss.at HL.out.1 (show k0 < n by have := HKN.out; omega)
    subst hA
    obtain rfl : y' = y := by have := HM.out.1; rw [hy] at this; exact Option.some.inj this
    have HYC := Lib.hid hcy
    have HMS := Lib.hid (fun (x : Us) (hx : x ∈ left) => FitU.of HX.out x (HP.out.1.mem_iff.1 (List.mem_append_right ws hx)))
    have HFY := Lib.hid (HMS.out y' (List.mem_of_getElem? hy))
    clear hcy hy
    by_cases hlt : i < n
    · obtain ⟨ad', x, hA, hx, _, hcx⟩ := Uss.at HL.out.1 hlt
      injection hA with hA
      subst hA
      have HXC := Lib.hid hcx
      have HFX := Lib.hid (HMS.out x (List.mem_of_getElem? hx))
      have HXY := Lib.hid (sel_step HP.out.2.1 hx HM.out.1 HKN.out.1 HM.out.2)
      have HXE := Lib.hid hx
      clear hcx hx hbl
      obtain ⟨x0, x1, x2⟩ := x
      obtain ⟨y0, y1, y2⟩ := y'
      have hfx := HFX.out
      have hfy := HFY.out
      have hxy := HXY.out
      unfold FitU at hfx hfy
      unfold deadU at hxy
      dsimp only at hfx hfy hxy HXC HYC
      have e1 := wrapI (x := x1 - x2) (by omega) (by omega)
      have e2 := wrapI (x := y1 - y2) (by omega) (by omega)
      obtain ⟨dx, hdx⟩ : ∃ d, x1 - x2 = d := ⟨_, rfl⟩
      obtain ⟨dy, hdy⟩ : ∃ d, y1 - y2 = d := ⟨_, rfl⟩
      have HWX := Lib.hid (show IntKind.i64.wrap (x1 - x2) = dx ∧ wrap64 (x1 - x2) = dx from by rw [← hdx]; exact e1)
      have HWY := Lib.hid (show IntKind.i64.wrap (y1 - y2) = dy ∧ wrap64 (y1 - y2) = dy from by rw [← hdy]; exact e2)
      rw [hdx, hdy] at hxy
      have HXZ := Lib.hid hxy
      have HKI := Lib.hid (show (0 : Int) ≤ (i : Int) ∧ (i : Int) < (n : Int) ∧ (0 : Int) ≤ (k0 : Int) ∧ (k0 : Int) < (n : Int) from by have := HKN.out; omega)
      have hlti : (i : Int) < (n : Int) := by omega
      clear hfx hfy hxy hdx hdy e1 e2 HXY HFX HFY
      go_wp2_with (fail)
      refine wp_region_facts (E := Grows) [valFact (.slice (some ad) n c1), valFact (.int .i64 (i : Int)), valFact (.pointer (some (ad.add (i * 3)))), valFact (.pointer (some { block := (ad.add (i * 3)).block, off := (ad.add (i * 3)).off + 1 })), valFact (.int .i64 x1), valFact (.slice (some ad) n c1), valFact (.int .i64 (i : Int)), valFact (.pointer (some (ad.add (i * 3)))), valFact (.pointer (some { block := (ad.add (i * 3)).block, off := (ad.add (i * 3)).off + 2 })), valFact (.int .i64 x2), valFact (.int .i64 dx), valFact (.slice (some ad) n c1), valFact (.int .i64 (k0 : Int)), valFact (.pointer (some (ad.add (k0 * 3)))), valFact (.pointer (some { block := (ad.add (k0 * 3)).block, off := (ad.add (k0 * 3)).off + 1 })), valFact (.int .i64 y1), valFact (.slice (some ad) n c1), valFact (.int .i64 (k0 : Int)), valFact (.pointer (some (ad.add (k0 * 3)))), valFact (.pointer (some { block := (ad.add (k0 * 3)).block, off := (ad.add (k0 * 3)).off + 2 })), valFact (.int .i64 y2), valFact (.int .i64 dy), valFact (.bool (decide (dy < dx)))] (by kernel_rfl) (by kernel_rfl) (fun _ _ _ => Grows.trans) (grows_drew _) ?_
      refine f_val (.slice (some ad) n c1) (by rfl) ?_ ?_
      · intro w' hC; clear hC; go_simp
      simp only [Act.put, List.setIfInBounds_toArray, List.set_cons_zero, List.set_cons_succ]
      refine f_val (.int .i64 (i : Int)) (by rfl) ?_ ?_
      · intro w' hC; clear hC; go_simp
      simp only [Act.put, List.setIfInBounds_toArray, List.set_cons_zero, List.set_cons_succ]
      refine f_val (.pointer (some (ad.add (i * 3)))) (by rfl) ?_ ?_
      · intro w' hC; have z0 := HKI.out; clear hC; go_simp
      simp only [Act.put, List.setIfInBounds_toArray, List.set_cons_zero, List.set_cons_succ]
      refine f_val (.pointer (some { block := (ad.add (i * 3)).block, off := (ad.add (i * 3)).off + 1 })) (by rfl) ?_ ?_
      · intro w' hC; clear hC; go_simp
      simp only [Act.put, List.setIfInBounds_toArray, List.set_cons_zero, List.set_cons_succ]
      refine f_val (.int .i64 x1) (by rfl) ?_ ?_
      · intro w' hC; have q := HXC.out w' (Grows.trans HG2.out hC); have q0 := q.1; have q1 := q.2.1; have q2 := q.2.2; clear hC; go_simp
      simp only [Act.put, List.setIfInBounds_toArray, List.set_cons_zero, List.set_cons_succ]
      refine f_val (.slice (some ad) n c1) (by rfl) ?_ ?_
      · intro w' hC; clear hC; go_simp
      simp only [Act.put, List.setIfInBounds_toArray, List.set_cons_zero, List.set_cons_succ]
      refine f_val (.int .i64 (i : Int)) (by rfl) ?_ ?_
      · intro w' hC; clear hC; go_simp
      simp only [Act.put, List.setIfInBounds_toArray, List.set_cons_zero, List.set_cons_succ]
      refine f_val (.pointer (some (ad.add (i * 3)))) (by rfl) ?_ ?_
      · intro w' hC; have z0 := HKI.out; clear hC; go_simp
      simp only [Act.put, List.setIfInBounds_toArray, List.set_cons_zero, List.set_cons_succ]
      refine f_val (.pointer (some { block := (ad.add (i * 3)).block, off := (ad.add (i * 3)).off + 2 })) (by rfl) ?_ ?_
      · intro w' hC; clear hC; go_simp
      simp only [Act.put, List.setIfInBounds_toArray, List.set_cons_zero, List.set_cons_succ]
      refine f_val (.int .i64 x2) (by rfl) ?_ ?_
      · intro w' hC; have q := HXC.out w' (Grows.trans HG2.out hC); have q0 := q.1; have q1 := q.2.1; have q2 := q.2.2; clear hC; go_simp
      simp only [Act.put, List.setIfInBounds_toArray, List.set_cons_zero, List.set_cons_succ]
      refine f_val (.int .i64 dx) (by rfl) ?_ ?_
      · intro w' hC; have z1 := HWX.out.1; have z2 := HWX.out.2; clear hC; go_simp
      simp only [Act.put, List.setIfInBounds_toArray, List.set_cons_zero, List.set_cons_succ]
      refine f_val (.slice (some ad) n c1) (by rfl) ?_ ?_
      · intro w' hC; clear hC; go_simp
      simp only [Act.put, List.setIfInBounds_toArray, List.set_cons_zero, List.set_cons_succ]
      refine f_val (.int .i64 (k0 : Int)) (by rfl) ?_ ?_
      · intro w' hC; clear hC; go_simp
      simp only [Act.put, List.setIfInBounds_toArray, List.set_cons_zero, List.set_cons_succ]
      refine f_val (.pointer (some (ad.add (k0 * 3)))) (by rfl) ?_ ?_
      · intro w' hC; have z0 := HKI.out; clear hC; go_simp
      simp only [Act.put, List.setIfInBounds_toArray, List.set_cons_zero, List.set_cons_succ]
      refine f_val (.pointer (some { block := (ad.add (k0 * 3)).block, off := (ad.add (k0 * 3)).off + 1 })) (by rfl) ?_ ?_
      · intro w' hC; clear hC; go_simp
      simp only [Act.put, List.setIfInBounds_toArray, List.set_cons_zero, List.set_cons_succ]
      refine f_val (.int .i64 y1) (by rfl) ?_ ?_
      · intro w' hC; have q := HYC.out w' (Grows.trans HG2.out hC); have q0 := q.1; have q1 := q.2.1; have q2 := q.2.2; clear hC; go_simp
      simp only [Act.put, List.setIfInBounds_toArray, List.set_cons_zero, List.set_cons_succ]
      refine f_val (.slice (some ad) n c1) (by rfl) ?_ ?_
      · intro w' hC; clear hC; go_simp
      simp only [Act.put, List.setIfInBounds_toArray, List.set_cons_zero, List.set_cons_succ]
      refine f_val (.int .i64 (k0 : Int)) (by rfl) ?_ ?_
      · intro w' hC; clear hC; go_simp
      simp only [Act.put, List.setIfInBounds_toArray, List.set_cons_zero, List.set_cons_succ]
      refine f_val (.pointer (some (ad.add (k0 * 3)))) (by rfl) ?_ ?_
      · intro w' hC; have z0 := HKI.out; clear hC; go_simp
      simp only [Act.put, List.setIfInBounds_toArray, List.set_cons_zero, List.set_cons_succ]
      refine f_val (.pointer (some { block := (ad.add (k0 * 3)).block, off := (ad.add (k0 * 3)).off + 2 })) (by rfl) ?_ ?_
      · intro w' hC; clear hC; go_simp
      simp only [Act.put, List.setIfInBounds_toArray, List.set_cons_zero, List.set_cons_succ]
      refine f_val (.int .i64 y2) (by rfl) ?_ ?_
      · intro w' hC; have q := HYC.out w' (Grows.trans HG2.out hC); have q0 := q.1; have q1 := q.2.1; have q2 := q.2.2; clear hC; go_simp
      simp only [Act.put, List.setIfInBounds_toArray, List.set_cons_zero, List.set_cons_succ]
      refine f_val (.int .i64 dy) (by rfl) ?_ ?_
      · intro w' hC; have z1 := HWY.out.1; have z2 := HWY.out.2; clear hC; go_simp
      simp only [Act.put, List.setIfInBounds_toArray, List.set_cons_zero, List.set_cons_succ]
      refine f_val (.bool (decide (dy < dx))) (by rfl) ?_ ?_
      · intro w' hC; clear hC; go_simp
      simp only [Act.put, List.setIfInBounds_toArray, List.set_cons_zero, List.set_cons_succ]
      refine wpF_end ?_
      intro w5 hC hks
      have HCw5 := Lib.hid hC
      clear hC hks
      by_cases hgt : dy < dx
      · have HND := Lib.hid (HXZ.out.1 hgt)
        rw [decide_eq_true hgt]
        clear hgt
        have hni : n ≤ 1000000 := by have := HN.out.2.2; omega
        go_wp2_with (fail)
        have hin := HKN.out
        have hgw := Grows.trans HG2.out HCw5.out
        go_roundw
        case rel => exact ⟨i, i + 1, ⟨x0, x1, x2⟩, rfl, by go_num, Lib.hid ⟨by omega, by omega⟩, Lib.hid ⟨HXE.out, HND.out⟩, Lib.hid hgw⟩
        case measure => simp [intOf]; omega
      · have HND := Lib.hid (HXZ.out.2 (by omega))
        rw [decide_eq_false hgt]
        clear hgt
        have hni : n ≤ 1000000 := by have := HN.out.2.2; omega
        go_wp2_with (fail)
        have hin := HKN.out
        have hgw := Grows.trans HG2.out HCw5.out
        go_roundw
        case rel => exact ⟨k0, i + 1, ⟨y0, y1, y2⟩, rfl, by go_num, Lib.hid ⟨by omega, by omega⟩, Lib.hid ⟨HM.out.1, HND.out⟩, Lib.hid hgw⟩
        case measure => simp [intOf]; omega
    · obtain rfl : n = i := by have := HKN.out; omega
      have hkn : k0 < n := HKN.out.1
      have HTO := Lib.hid (take_out HM.out.1)
      have HPY := Lib.hid (show (∀ u ∈ left, ltU u y' = false) ∧ y' ∈ left from ⟨fun u hu => by
        obtain ⟨j, hj, e⟩ := List.mem_iff_getElem.1 hu
        exact HM.out.2 j (by have := HN.out.1; omega) u (by rw [List.getElem?_eq_getElem hj, e]), List.mem_of_getElem? HM.out.1⟩)
      have hxc := (HYC.out wr HG2.out).1
      obtain ⟨i, hi⟩ : ∃ i, k0 + 1 = i := ⟨_, rfl⟩
      have HNI := Lib.hid (show k0 < n ∧ k0 + 1 = i ∧ n ≤ c1 ∧ ad.block < wr.heap.size from ⟨hkn, hi, HL.out.1.cap, Nat.lt_of_lt_of_le hbl HG2.out.size⟩)
      obtain ⟨x0, x1, x2⟩ := y'
      dsimp only at hxc
      obtain ⟨W8, hW8⟩ : ∃ W, wr.alloc (.cells #[.int .i64 x0] 3) = W := ⟨_, rfl⟩
      have hg8 : Grows wr W8 := hW8 ▸ grows_alloc _ _
      have hm8 : Whole W8 wr.heap.size 3 #[.int .i64 x0] := by rw [← hW8]; exact Whole.made _ _ _
      have H8 := Lib.hid (And.intro (Grows.trans HG2.out hg8) hm8)
      have HS8 := Lib.hid (show w.heap.size ≤ W8.heap.size ∧ wr.heap.size ≤ W8.heap.size from by have h1 := HG.out.size; have h2 := HG2.out.size; have h3 := hg8.size; omega)
      have k1 : (0 : Int) ≤ (k0 : Int) := by omega
      have k2 : (k0 : Int) < (n : Int) := by omega
      clear hlt hbl hi hg8 hm8 HFY HMS
      go_wp2_with (first
        | rw [hW8]
        | (at_builtin
           refine list_append_at rfl (.tmp 42) (.tmp 48) 43 rfl w.heap.size 3 i0 (.int .i64 0) 1 8 Try.underlying43 HI.out.1 HI.out.2.1 HI.out.2.2.1 HI.out.2.2.2 rfl (by omega)
             rfl (owned_grow HO.out H8.out.1) (A := some ⟨wr.heap.size, 0, none⟩) (m := 1) (c := 1) rfl (Rs.lit segV_len H8.out.2 [(⟨x0, x1, x2⟩ : Us)] rfl (n := 1) rfl).row (fun h => by cases h) (fun u hu => segV_one ⟨x0, x1, x2⟩ u (by simpa using hu)) (k + 1) rfl (by have := HN.out; unfold maxLen; omega) (by have := HN.out; omega) (by have := HS8.out; omega) ?_
           intro A9 c9 w9 ho9 hg9 hd9
           have H9 := Lib.hid (show _ ∧ W8.grownBy w9 (Value.slice A2 k c2).ownBlock ∧ ((Value.slice A9 (k + 1) c9).ownBlock = (Value.slice A2 k c2).ownBlock ∨ (Value.slice A9 (k + 1) c9).ownBlock = some W8.heap.size) from And.intro ho9 (And.intro hg9 hd9))
           clear ho9 hg9 hd9)
        | fail)
      have hs9 : Spares (fun q => (Value.slice A2 k c2).ownBlock = some q) W8 w9 := (Spares.refl _ _).grown H9.out.2.1 fun q hq => hq
      have hu9 : Uss w9 (some ad) n c1 left := Uss.off (HL.out.1.grow H8.out.1) hs9 fun a e => by
        injection e with e
        subst e
        exact HL.out.2 _ rfl
      have hab : ad.block < w9.heap.size := by have h1 := HNI.out; have h2 := HS8.out; have h3 := hs9.size; omega
      have hna : ∀ q, (Value.slice A9 (k + 1) c9).ownBlock = some q → q ≠ ad.block := fun q hq e => by
        rcases H9.out.2.2 with h1 | h1
        · rw [h1] at hq
          exact HL.out.2 ad rfl (by rw [hq, e])
        · rw [h1] at hq
          injection hq with hq
          have h2 := HNI.out.2.2.2
          have h3 := HS8.out
          omega
      have hg9 : Grows w w9 := ((Spares.grows (own := fun q => (Value.slice A2 k c2).ownBlock = some q) (Grows.trans HG.out H8.out.1)).trans hs9).below (Nat.le_refl _) fun q hq hk => by have := (owned_lt3 HO.out hk).1; omega
      have HU9 := Lib.hid (And.intro hu9 (And.intro hab (And.intro hna hg9)))
      have hus : ∀ w', Spares (fun k => w9.heap.size ≤ k) w9 w' → Uss w' (some ad) n c1 left := fun w' hC => Uss.off hu9 hC fun a e => by injection e with e; subst e; omega
      have HTK := Lib.hid (show ∀ w', Spares (fun k => w9.heap.size ≤ k) w9 w' → ∀ (t : Nat) (u : Value), ((left.take k0).flatMap usE)[t]? = some u → w'.cell? (ad.add t) = some u from fun w' hC => cells_take (hus w' hC) k0)
      have z0 : (0 : Int) ≤ (k0 : Int) := by omega
      have z1 : (k0 : Int) ≤ (c1 : Int) := by have := HNI.out; omega
      have z2 : (k0 : Int) + 1 = (i : Int) := by have := HNI.out; omega
      have z3 : (i : Int) ≤ (n : Int) := by have := HNI.out; omega
      have z6 : (n : Int) ≤ (c1 : Int) := by have := HNI.out; omega
      have z7 : (0 : Int) ≤ (i : Int) := by omega
      obtain ⟨z4, z5⟩ := wrapI (x := (i : Int)) (by omega) (by have := HN.out; omega)
      have HKI := Lib.hid (show (0 : Int) ≤ (k0 : Int) ∧ (k0 : Int) ≤ (c1 : Int) ∧ (k0 : Int) + 1 = (i : Int) ∧ (i : Int) ≤ (n : Int) ∧ IntKind.i64.wrap (i : Int) = (i : Int) ∧ wrap64 (i : Int) = (i : Int) ∧ (n : Int) ≤ (c1 : Int) ∧ (0 : Int) ≤ (i : Int) from ⟨z0, z1, z2, z3, z4, z5, z6, z7⟩)
      clear z0 z1 z2 z3 z4 z5 z6 z7
      have hsz2 : ∃ (ad2 : Addr) (m2 c3 : Nat), (i < c1 → ad2 = ad.add (i * 3)) ∧ (i = c1 → ad2 = ad) ∧ m2 = n - i ∧ c3 = c1 - i := by
        by_cases e : i = c1
        · exact ⟨ad, n - i, c1 - i, fun h => by omega, fun _ => rfl, rfl, rfl⟩
        · exact ⟨ad.add (i * 3), n - i, c1 - i, fun _ => rfl, fun h => absurd h e, rfl, rfl⟩
      obtain ⟨ad2, m2, c3, z1, z2, z3, z4⟩ := hsz2
      have hic : i ≤ c1 := by have := HNI.out; omega
      have hsl0 : ∀ w', (Instr.sliceAt 40 (.slice (some ad) n c1) (some (.int .i64 (i : Int))) none none).run Try.prog w' = .ok (.slice (if c1 = i then some ad else some (ad.add (i * 3))) (n - i) (c1 - i)) w' := fun w' => by
        have k0 : (0 : Int) ≤ (i : Int) := HKI.out.2.2.2.2.2.2.2
        have k1 : (i : Int) ≤ (n : Int) := HKI.out.2.2.2.1
        have k2 : (n : Int) ≤ (c1 : Int) := HKI.out.2.2.2.2.2.2.1
        go_simp
      have hsl : ∀ w', (Instr.sliceAt 40 (.slice (some ad) n c1) (some (.int .i64 (i : Int))) none none).run Try.prog w' = .ok (.slice (some ad2) m2 c3) w' := fun w' => by
        rw [hsl0 w', z3, z4]
        by_cases e : i = c1
        · rw [if_pos e.symm, z2 e]
        · rw [if_neg (fun h => e h.symm), z1 (by omega)]
      have HSL := Lib.hid hsl
      have HM2 := Lib.hid (show m2 = n - i from z3)
      have HDK := Lib.hid (show ∀ w', Spares (fun k => w9.heap.size ≤ k) w9 w' → ∀ (t : Nat) (u : Value), ((left.drop i).flatMap usE)[t]? = some u → w'.cell? (ad2.add t) = some u from fun w' hC => by
        have hil : i ≤ left.length := by have := HNI.out; have := HN.out.1; omega
        by_cases e : i = c1
        · have hnil : left.drop i = [] := List.drop_eq_nil_of_le (by have := HNI.out; have := HN.out.1; omega)
          rw [hnil]
          intro t u hu
          simp at hu
        · rw [z1 (by omega)]
          exact cells_drop (hus w' hC) i hil)
      have HJL := Lib.hid (show (left.take k0).length = k0 ∧ (left.drop i).length = m2 ∧ k0 ≤ 1000000 ∧ k0 + m2 ≤ 1000000 ∧ (left.take k0 ++ left.drop i).length = k0 + m2 from by
        have h1 := HNI.out
        have h2 := HN.out
        refine ⟨by rw [List.length_take]; omega, by rw [List.length_drop]; omega, by omega, by omega, by rw [List.length_append, List.length_take, List.length_drop]; omega⟩)
      clear hus hsl hsl0 hic z1 z2 z3 z4 hs9 hu9 hab hna hg9 hkn k1 k2 hxc
      refine wp_region_jobs (G := Grows) (E := Spares (fun k => w9.heap.size ≤ k)) 10 [clsJob (fun k => w9.heap.size ≤ k) Nat 0 (fun g => .slice (some ⟨g, 0, none⟩) 0 0) (fun g w' => w'.ownsRow w9.heap.size 34 3 (.slice (some ⟨g, 0, none⟩) 0 0) 0 (([] : List Us).flatMap usE)) (fun _ _ _ h hg => owned_grow h hg), valJob (fun k => w9.heap.size ≤ k) (.slice (some ad) n c1), valJob (fun k => w9.heap.size ≤ k) (.int .i64 (k0 : Int)), valJob (fun k => w9.heap.size ≤ k) (.slice (some ad) k0 c1), clsJob (fun k => w9.heap.size ≤ k) (Option Addr × Nat) (none, 0) (fun p => .slice p.1 (k0) p.2) (fun p w' => w'.ownsRow w9.heap.size 34 3 (.slice p.1 (k0) p.2) (k0) ((left.take k0).flatMap usE)) (fun _ _ _ h hg => owned_grow h hg), valJob (fun k => w9.heap.size ≤ k) (.slice (some ad) n c1), valJob (fun k => w9.heap.size ≤ k) (.int .i64 (k0 : Int)), valJob (fun k => w9.heap.size ≤ k) (.int .i64 (i : Int)), valJob (fun k => w9.heap.size ≤ k) (.slice (some ad2) m2 c3), clsJob (fun k => w9.heap.size ≤ k) (Option Addr × Nat) (none, 0) (fun p => .slice p.1 (k0 + m2) p.2) (fun p w' => w'.ownsRow w9.heap.size 34 3 (.slice p.1 (k0 + m2) p.2) (k0 + m2) ((left.take k0 ++ left.drop i).flatMap usE)) (fun _ _ _ h hg => owned_grow h hg)] [(true, true), (false, false), (false, false), (false, false), (true, true), (false, false), (false, false), (false, false), (false, false), (true, true)] (fun _ => True) rfl mixed (by kernel_rfl) (fun _ _ => Spares.grows) (fun _ _ _ => Spares.trans) (spares_drew _ _) (trivial) (fun _ _ h _ => h) ?_
      simp only [List.take_succ_cons, List.take_zero, List.drop_succ_cons, List.drop_zero]
      refine j_cls (by rfl) (fun w' hC hcls => ⟨w'.heap.size, w'.alloc (.cells #[] 34), by go_simp, Spares.grows (grows_alloc _ _), World.ownsRow_lit w' #[] 0 hC.size (Nat.zero_le _) rfl⟩) ?_
      intro g1
      dsimp only
      simp only [Act.put, List.setIfInBounds_toArray, List.set_cons_zero, List.set_cons_succ]
      refine j_val (.slice (some ad) n c1) (by rfl) ?_ ?_
      · intro w' hC; clear hC; go_simp
      simp only [Act.put, List.setIfInBounds_toArray, List.set_cons_zero, List.set_cons_succ]
      refine j_val (.int .i64 (k0 : Int)) (by rfl) ?_ ?_
      · intro w' hC; clear hC; go_simp
      simp only [Act.put, List.setIfInBounds_toArray, List.set_cons_zero, List.set_cons_succ]
      refine j_val (.slice (some ad) k0 c1) (by rfl) ?_ ?_
      · intro w' hC; have z0 := HKI.out; clear hC; go_simp
      simp only [Act.put, List.setIfInBounds_toArray, List.set_cons_zero, List.set_cons_succ]
      refine j_clsk (by rfl) (fun w' hC hcls hks => ?_) ?_
      · obtain ⟨A', c', w2, hr, ho2, hg2⟩ := run_append_part (ty := 40) hcls (ad := ad) (m := k0) (c' := c1) (fun t u h => HTK.out w' hC t u h) (⟨HJL.out.1, by have := HJL.out.2.2.1; omega⟩) hC.size (k := k0) (by omega) (l3 := left.take k0) (by simp)
        exact ⟨(A', c'), w2, exec_app rfl rfl rfl hr, (Spares.refl _ _).grown hg2 (fun k e => (owned_lt3 hcls e).1), ho2⟩
      rintro ⟨B2, d2⟩
      dsimp only
      simp only [Act.put, List.setIfInBounds_toArray, List.set_cons_zero, List.set_cons_succ]
      refine j_val (.slice (some ad) n c1) (by rfl) ?_ ?_
      · intro w' hC; clear hC; go_simp
      simp only [Act.put, List.setIfInBounds_toArray, List.set_cons_zero, List.set_cons_succ]
      refine j_val (.int .i64 (k0 : Int)) (by rfl) ?_ ?_
      · intro w' hC; clear hC; go_simp
      simp only [Act.put, List.setIfInBounds_toArray, List.set_cons_zero, List.set_cons_succ]
      refine j_val (.int .i64 (i : Int)) (by rfl) ?_ ?_
      · intro w' hC; have z0 := HKI.out; clear hC; go_simp
      simp only [Act.put, List.setIfInBounds_toArray, List.set_cons_zero, List.set_cons_succ]
      refine j_val (.slice (some ad2) m2 c3) (by rfl) ?_ ?_
      · intro w' hC; have z1 := HSL.out w'; clear hC; go_simp
      simp only [Act.put, List.setIfInBounds_toArray, List.set_cons_zero, List.set_cons_succ]
      refine j_clsk (by rfl) (fun w' hC hcls hks => ?_) ?_
      · obtain ⟨A', c', w2, hr, ho2, hg2⟩ := run_append_part (ty := 40) hcls (ad := ad2) (m := m2) (c' := c3) (fun t u h => HDK.out w' hC t u h) (⟨HJL.out.2.1, HJL.out.2.2.2.1⟩) hC.size (k := k0 + m2) (by omega) (l3 := left.take k0 ++ left.drop i) (by simp)
        exact ⟨(A', c'), w2, exec_app rfl rfl rfl hr, (Spares.refl _ _).grown hg2 (fun k e => (owned_lt3 hcls e).1), ho2⟩
      rintro ⟨B5, d5⟩
      dsimp only
      simp only [Act.put, List.setIfInBounds_toArray, List.set_cons_zero, List.set_cons_succ]
      refine wpJ_end ?_
      intro w7 hC hks hcls
      have HCw7 := Lib.hid hC
      have HLw7 := Lib.hid hcls
      clear hC hks hcls
      go_wp2_with (fail)
      obtain ⟨hu9, hab, hna, hg9⟩ := HU9.out
      obtain ⟨ho9, _, _⟩ := H9.out
      obtain ⟨hperm, hsub⟩ := HTO.out
      rw [HNI.out.2.1] at hperm hsub
      have hll := HJL.out.2.2.2.2
      have hown := HLw7.out
      have hl9 : (ws ++ [(⟨x0, x1, x2⟩ : Us)]).length = k + 1 := by rw [List.length_append, HN.out.2.1]; rfl
      have hpw : (ws ++ [(⟨x0, x1, x2⟩ : Us)]).Pairwise fun x y => ltU y x = false := List.pairwise_append.2 ⟨HP.out.2.2.1, List.pairwise_singleton _ _, fun a ha b hb => by rw [List.mem_singleton.1 hb]; exact HP.out.2.2.2 _ HPY.out.2 a ha⟩
      have hpe : (ws ++ [(⟨x0, x1, x2⟩ : Us)] ++ (left.take k0 ++ left.drop i)).Perm l := by
        rw [List.append_assoc]
        exact ((List.Perm.append_left ws hperm).symm).trans HP.out.1
      have hall : ∀ y ∈ left.take k0 ++ left.drop i, ∀ x ∈ ws ++ [(⟨x0, x1, x2⟩ : Us)], ltU y x = false := fun y hy x hx => by
        rcases List.mem_append.1 hx with hx | hx
        · exact HP.out.2.2.2 y (hsub.subset hy) x hx
        · rw [List.mem_singleton.1 hx]; exact HPY.out.1 y (hsub.subset hy)
      have hrise : RiseU (left.take k0 ++ left.drop i) := List.Pairwise.sublist hsub HP.out.2.1
      have ho7 : w7.ownsRow w.heap.size 3 1 (.slice A9 (k + 1) c9) (k + 1) (ws.flatMap segV ++ [.int .i64 x0]) := owned_same3 ho9 fun q hq => HCw7.out.same q (owned_lt3 ho9 hq).2 (by have := (owned_lt3 ho9 hq).2; omega)
      have hrow : w7.ownsRow w.heap.size 3 1 (.slice A9 (ws ++ [(⟨x0, x1, x2⟩ : Us)]).length c9) (ws ++ [(⟨x0, x1, x2⟩ : Us)]).length ((ws ++ [(⟨x0, x1, x2⟩ : Us)]).flatMap segV) := by
        rw [hl9, flat_snoc]
        exact ho7
      have hus7 : Uss w7 B5 (left.take k0 ++ left.drop i).length d5 (left.take k0 ++ left.drop i) := by
        rw [hll]
        exact Rs.owned usL hll hown
      have hap : ∀ a, B5 = some a → (Value.slice A9 (ws ++ [(⟨x0, x1, x2⟩ : Us)]).length c9).ownBlock ≠ some a.block := fun a e hq => by
        subst e
        have h1 := (owned_lt3 hown (k := a.block) rfl).1
        rw [hl9] at hq
        have h2 := (owned_lt3 ho9 hq).2
        omega
      have hg7 : Grows w w7 := ((Spares.grows (own := fun q => w9.heap.size ≤ q) hg9).trans HCw7.out).below (Nat.le_refl _) fun q hq hk => by have := hg9.size; omega
      have hmeas : k0 + m2 < n := by have := HNI.out; have := HM2.out; omega
      go_roundw
      case rel => exact ⟨left.take k0 ++ left.drop i, ws ++ [⟨x0, x1, x2⟩], B5, d5, A9, c9, by rw [hll], by rw [hl9], Lib.hid ⟨hus7, hap⟩, Lib.hid hrow, Lib.hid ⟨hpe, hrise, hpw, hall⟩, Lib.hid hg7⟩
      case measure => simp [lenOf]; omega
end Go.Proofs.Ytlldcogkcjnejaa
