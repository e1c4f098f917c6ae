/-
  The document's answer to book: Drop.
-/
import Derived.Test.YtlldcogkcjnejaaRbKill
namespace Go.Proofs.Ytlldcogkcjnejaa
open Go.RowKit Go.Shelf Go.Maps Go.Sort
set_option linter.unusedVariables false
set_option linter.unusedSimpArgs false

/-- 'append(s, x...)': s the call's own row of uses, x a part of any. -/
theorem run_append_part {w : World} {ty base : Nat} {A : Option Addr} {n c : Nat} {l1 : List Us} (hown : w.ownsRow base 34 3 (.slice A n c) n (l1.flatMap usE)) {l2 : List Us}
    {ad : Addr} {m c' : Nat} (hc : ∀ (j : Nat) (u : Value), (l2.flatMap usE)[j]? = some u → w.cell? (ad.add j) = some u) (hb : l2.length = m ∧ n + m ≤ 1000000) (hbase : base ≤ w.heap.size) {k : Nat} (hk : n + m = k) {l3 : List Us} (h3 : l1 ++ l2 = l3) :
    ∃ A' c'' w', (Builtin.append_ #[40, 40] ty #[.slice A n c, .slice (some ad) m c']).run Try.prog w = .ok (.slice A' k c'') w' ∧ w'.ownsRow base 34 3 (.slice A' k c'') k (l3.flatMap usE) ∧ w.grownBy w' (Value.slice A n c).ownBlock := by
  subst hk h3
  obtain ⟨i0, hi0, hz0, hz1, hz2⟩ := info_of infoUs
  obtain ⟨v', w', hr, h2, h3, _, h5⟩ := run_append_own_at (P := Try.prog) (w := w) base 40 ty 34 i0 (.agg #[.int .i64 0, .int .i64 0, .int .i64 0]) 3 24 Try.underlying40 hi0 hz0 hz1 hz2 rfl (by omega) (.slice A n c) n (l1.flatMap usE) hown ad m c' (l2.flatMap usE) (by rw [flat_len3, hb.1]) hc (fun u hu => by obtain ⟨x, _, hx⟩ := List.mem_flatMap.1 hu; exact usE_one x u hx) (by unfold maxLen; omega) (by omega) hbase
  obtain ⟨A', c'', rfl⟩ := slice_ownP h2
  exact ⟨A', c'', w', hr, by rw [List.flatMap_append]; exact h2, h3⟩
theorem cells_of {w : World} {ad : Addr} {n c : Nat} {l : List Us} (h : Uss w (some ad) n c l) : ∀ (j : Nat) (u : Value), (l.flatMap usE)[j]? = some u → ad.block < w.heap.size ∧ w.cell? (ad.add j) = some u := fun j u hu => by
  obtain ⟨ad', e, h1, h2⟩ := h.row.spot j u hu
  injection e with e
  subst e
  exact ⟨h1, h2⟩
theorem cells_take {w : World} {ad : Addr} {n c : Nat} {l : List Us} (h : Uss w (some ad) n c l) (k : Nat) : ∀ (j : Nat) (u : Value), ((l.take k).flatMap usE)[j]? = some u → w.cell? (ad.add j) = some u := fun j u hu => by
  refine (cells_of h j u ?_).2
  have e : l.flatMap usE = (l.take k).flatMap usE ++ (l.drop k).flatMap usE := by rw [← List.flatMap_append, List.take_append_drop]
  rw [e, List.getElem?_append_left (List.getElem?_eq_some_iff.1 hu).1]
  exact hu
theorem cells_drop {w : World} {ad : Addr} {n c : Nat} {l : List Us} (h : Uss w (some ad) n c l) (k : Nat) (hk : k ≤ l.length) : ∀ (j : Nat) (u : Value), ((l.drop k).flatMap usE)[j]? = some u → w.cell? ((ad.add (k * 3)).add j) = some u := fun j u hu => by
  rw [add_twice]
  refine (cells_of h (k * 3 + j) u ?_).2
  have e : l.flatMap usE = (l.take k).flatMap usE ++ (l.drop k).flatMap usE := by rw [← List.flatMap_append, List.take_append_drop]
  have hl : ((l.take k).flatMap usE).length = k * 3 := by rw [flat_len3, List.length_take, Nat.min_eq_left hk]
  rw [e, List.getElem?_append_right (by omega), hl, Nat.add_sub_cancel_left]
  exact hu
theorem dropU_at {l : List Us} {j : Nat} {x : Us} (h : RiseU l) (hj : l[j]? = some x) : dropU x.seg l = l.take j ++ l.drop (j + 1) := by
  have hjl := (List.getElem?_eq_some_iff.1 hj).1
  have he : l = l.take j ++ (x :: l.drop (j + 1)) := by
    have h1 : l.drop j = x :: l.drop (j + 1) := by
      rw [List.drop_eq_getElem_cons hjl]
      congr 1
      have := hj
      rw [List.getElem?_eq_getElem hjl] at this
      exact Option.some.inj this
    rw [← h1, List.take_append_drop]
  have hp := h
  rw [he] at hp
  obtain ⟨_, h2, h3⟩ := List.pairwise_append.1 hp
  unfold dropU udel
  conv => lhs; rw [he]
  rw [List.filter_append, List.filter_cons_of_neg (by simp)]
  congr 1
  · refine List.filter_eq_self.2 fun y hy => ?_
    have := h3 y hy x List.mem_cons_self
    simp
    omega
  · refine List.filter_eq_self.2 fun y hy => ?_
    have := (List.pairwise_cons.1 h2).1 y hy
    simp
    omega
set_option maxRecDepth 100000 in
set_option maxHeartbeats 4000000 in
theorem rdrop_use {q c : Nat} {A : Option Addr} {l : List Us} {w : World} (h : RbAt w q A c l) {M : Nat} (hok : UOk M 1000000 l) (k : Int) :
    Calls Try.prog 15 #[.pointer (some ⟨q, 0, none⟩), .int .i64 k] w fun e w' => e = .returned (.bool (hasU k l)) ∧ RbTo w q A (dropU k l) w' := by
  have hn := hok.few
  cases hf : ufind k l with
  | none =>
    have hb0 : hasU k l = false := by unfold hasU; rw [hf]; rfl
    rw [hb0, drop_none hb0]
    have HA := Lib.hid (at_none h hn hf)
    have HX := Lib.hid h
    clear h hf hb0
    go_enter Try.func15, Try.ntmps15
    go_wp2_with (fail)
    refine HA.out.mono ?_
    rintro e w1 ⟨rfl, hg1⟩
    have H1 := Lib.hid hg1
    clear hg1
    go_wp2_with (fail)
    go_ret
    exact ⟨rfl, RbTo.keep HX.out H1.out⟩
  | some x =>
  have hb1 : hasU k l = true := by unfold hasU; rw [hf]; rfl
  obtain ⟨j, hj, hx⟩ := find_at hf
  have hdr : dropU k l = l.take j ++ l.drop (j + 1) := by rw [← hx]; exact dropU_at hok.rise hj
  rw [hb1, hdr]
  have HA := Lib.hid (at_some h hn hok.rise hj hx)
  obtain ⟨m, hl⟩ : ∃ n, l.length = n := ⟨_, rfl⟩
  have hjm : j < m := by rw [← hl]; exact (List.getElem?_eq_some_iff.1 hj).1
  obtain ⟨i, hi⟩ : ∃ i, j + 1 = i := ⟨_, rfl⟩
  rw [hi]
  have hb := h.box
  have hrow := h.row
  rw [hl] at hb hrow
  obtain ⟨ad, hA⟩ : ∃ ad, A = some ad := by
    obtain ⟨ad, _, e, _⟩ := Uss.at hrow hjm
    exact ⟨ad, e⟩
  subst hA
  have hcap := hrow.cap
  have HX := Lib.hid (show RbAt w q (some ad) c l ∧ Boxed w q 54 (.slice (some ad) m c) ∧ Uss w (some ad) m c l ∧ l.length = m ∧ j + 1 = i ∧ m ≤ 1000000 ∧ ad.block ≠ q from ⟨h, hb, hrow, hl, hi, by omega, h.apart ad rfl⟩)
  have hq := hb.lt
  have had : ad.block < w.heap.size := (cells_of hrow (j * 3) _ (by
    have h1 := flat_get usL l j 0 x hj (by omega)
    rw [Nat.add_zero] at h1
    exact h1)).1
  clear h hf hb1 hj hx hdr hb hrow
  go_enter Try.func15, Try.ntmps15
  go_wp2_with (fail)
  refine HA.out.mono ?_
  rintro e w1 ⟨rfl, hg1⟩
  have hs1 := hg1.size
  have hr1 := HX.out.1.grow hg1
  have HBX := Lib.hid (show ∀ w', Spares (fun k => w1.heap.size ≤ k) w1 w' → w'.cell? { block := q, off := 0 } = some (.slice (some ad) m c) from fun w' hC => by
    have := (hr1.off hC (by omega) (fun a e => by injection e with e; subst e; omega)).box.cell
    rw [HX.out.2.2.2.1] at this
    exact this)
  have hus : ∀ w', Spares (fun k => w1.heap.size ≤ k) w1 w' → Uss w' (some ad) m c l := fun w' hC => by
    have := (hr1.off hC (by omega) (fun a e => by injection e with e; subst e; omega)).row
    rw [HX.out.2.2.2.1] at this
    exact this
  have HTK := Lib.hid (show ∀ w', Spares (fun k => w1.heap.size ≤ k) w1 w' → ∀ (t : Nat) (u : Value), ((l.take j).flatMap usE)[t]? = some u → w'.cell? (ad.add t) = some u from fun w' hC => cells_take (hus w' hC) j)
  have k0 : (0 : Int) ≤ (j : Int) := by omega
  have k1 : (j : Int) ≤ (c : Int) := by omega
  have k2 : (j : Int) + 1 = (i : Int) := by omega
  have k3 : (i : Int) ≤ (m : Int) := by omega
  have k6 : (m : Int) ≤ (c : Int) := by omega
  have k7 : (0 : Int) ≤ (i : Int) := by omega
  obtain ⟨k4, k5⟩ := wrapI (x := (i : Int)) (by omega) (by omega)
  have HKI := Lib.hid (show (0 : Int) ≤ (j : Int) ∧ (j : Int) ≤ (c : Int) ∧ (j : Int) + 1 = (i : Int) ∧ (i : Int) ≤ (m : Int) ∧ IntKind.i64.wrap (i : Int) = (i : Int) ∧ wrap64 (i : Int) = (i : Int) ∧ (m : Int) ≤ (c : Int) ∧ (0 : Int) ≤ (i : Int) from ⟨k0, k1, k2, k3, k4, k5, k6, k7⟩)
  clear k0 k1 k2 k3 k4 k5 k6 k7
  have hsz2 : ∃ (ad2 : Addr) (m2 c3 : Nat), (i < c → ad2 = ad.add (i * 3)) ∧ (i = c → ad2 = ad) ∧ m2 = m - i ∧ c3 = c - i := by
    by_cases e : i = c
    · exact ⟨ad, m - i, c - i, fun h => by omega, fun _ => rfl, rfl, rfl⟩
    · exact ⟨ad.add (i * 3), m - i, c - i, fun _ => rfl, fun h => absurd h e, rfl, rfl⟩
  obtain ⟨ad2, m2, c3, z1, z2, z3, z4⟩ := hsz2
  have hic : i ≤ c := by have := HX.out; omega
  have hsl0 : ∀ w', (Instr.sliceAt 40 (.slice (some ad) m c) (some (.int .i64 (i : Int))) none none).run Try.prog w' = .ok (.slice (if c = i then some ad else some (ad.add (i * 3))) (m - i) (c - i)) w' := fun w' => by
    have k0 : (0 : Int) ≤ (i : Int) := HKI.out.2.2.2.2.2.2.2
    have k1 : (i : Int) ≤ (m : Int) := HKI.out.2.2.2.1
    have k2 : (m : Int) ≤ (c : Int) := HKI.out.2.2.2.2.2.2.1
    go_simp
  have hsl : ∀ w', (Instr.sliceAt 40 (.slice (some ad) m c) (some (.int .i64 (i : Int))) none none).run Try.prog w' = .ok (.slice (some ad2) m2 c3) w' := fun w' => by
    rw [hsl0 w', z3, z4]
    by_cases e : i = c
    · rw [if_pos e.symm, z2 e]
    · rw [if_neg (fun h => e h.symm), z1 (by omega)]
  have HSL := Lib.hid hsl
  have HM2 := Lib.hid (show m2 = m - i from z3)
  have HDK := Lib.hid (show ∀ w', Spares (fun k => w1.heap.size ≤ k) w1 w' → ∀ (t : Nat) (u : Value), ((l.drop i).flatMap usE)[t]? = some u → w'.cell? (ad2.add t) = some u from fun w' hC => by
    have hil : i ≤ l.length := by have := HX.out; omega
    by_cases e : i = c
    · have hnil : l.drop i = [] := List.drop_eq_nil_of_le (by have := HX.out; omega)
      rw [hnil]
      intro t u hu
      simp at hu
    · rw [z1 (by omega)]
      exact cells_drop (hus w' hC) i hil)
  have HFR := Lib.hid (show ∀ w', Spares (fun k => w1.heap.size ≤ k) w1 w' → Boxed w' q 54 (.slice (some ad) m c) from fun w' hC => by
    have := (hr1.off hC (by omega) (fun a e => by injection e with e; subst e; omega)).box
    rw [HX.out.2.2.2.1] at this
    exact this)
  have HJL := Lib.hid (show (l.take j).length = j ∧ (l.drop i).length = m2 ∧ j ≤ 1000000 ∧ j + m2 ≤ 1000000 ∧ (l.take j ++ l.drop i).length = j + m2 from by
    have := HX.out
    refine ⟨by rw [List.length_take]; omega, by rw [List.length_drop]; omega, by omega, by omega, by rw [List.length_append, List.length_take, List.length_drop]; omega⟩)
  have H1 := Lib.hid (show Grows w w1 ∧ q < w.heap.size from ⟨hg1, hq⟩)
  clear hs1 hr1 hus hsl hsl0 hic z1 z2 z3 z4 hg1 had hq
  go_wp2_with (fail)
  refine wp_region_jobs (G := Grows) (E := Spares (fun k => w1.heap.size ≤ k)) 17 [valJob (fun k => w1.heap.size ≤ k) (.pointer (some ⟨q, 0, none⟩)), clsJob (fun k => w1.heap.size ≤ k) Nat 0 (fun g => .slice (some ⟨g, 0, none⟩) 0 0) (fun g w' => w'.ownsRow w1.heap.size 34 3 (.slice (some ⟨g, 0, none⟩) 0 0) 0 (([] : List Us).flatMap usE)) (fun _ _ _ h hg => owned_grow h hg), valJob (fun k => w1.heap.size ≤ k) (.pointer (some ⟨q, 0, none⟩)), valJob (fun k => w1.heap.size ≤ k) (.pointer (some ⟨q, 0, none⟩)), valJob (fun k => w1.heap.size ≤ k) (.pointer (some ⟨q, 0, none⟩)), valJob (fun k => w1.heap.size ≤ k) (.slice (some ad) m c), valJob (fun k => w1.heap.size ≤ k) (.int .i64 (j : Int)), valJob (fun k => w1.heap.size ≤ k) (.slice (some ad) j c), clsJob (fun k => w1.heap.size ≤ k) (Option Addr × Nat) (none, 0) (fun p => .slice p.1 (j) p.2) (fun p w' => w'.ownsRow w1.heap.size 34 3 (.slice p.1 (j) p.2) (j) ((l.take j).flatMap usE)) (fun _ _ _ h hg => owned_grow h hg), valJob (fun k => w1.heap.size ≤ k) (.pointer (some ⟨q, 0, none⟩)), valJob (fun k => w1.heap.size ≤ k) (.pointer (some ⟨q, 0, none⟩)), valJob (fun k => w1.heap.size ≤ k) (.pointer (some ⟨q, 0, none⟩)), valJob (fun k => w1.heap.size ≤ k) (.slice (some ad) m c), valJob (fun k => w1.heap.size ≤ k) (.int .i64 (j : Int)), valJob (fun k => w1.heap.size ≤ k) (.int .i64 (i : Int)), valJob (fun k => w1.heap.size ≤ k) (.slice (some ad2) m2 c3), clsJob (fun k => w1.heap.size ≤ k) (Option Addr × Nat) (none, 0) (fun p => .slice p.1 (j + m2) p.2) (fun p w' => w'.ownsRow w1.heap.size 34 3 (.slice p.1 (j + m2) p.2) (j + m2) ((l.take j ++ l.drop i).flatMap usE)) (fun _ _ _ h hg => owned_grow h hg)] [(false, false), (true, true), (false, false), (false, false), (false, false), (false, false), (false, false), (false, false), (true, true), (false, false), (false, false), (false, false), (false, false), (false, false), (false, false), (false, false), (true, true)] (fun _ => True) rfl mixed (by kernel_rfl) (fun _ _ => Spares.grows) (fun _ _ _ => Spares.trans) (spares_drew _ _) (trivial) (fun _ _ h _ => h) ?_
  simp only [List.take_succ_cons, List.take_zero, List.drop_succ_cons, List.drop_zero]
  refine j_val (.pointer (some ⟨q, 0, none⟩)) (by rfl) ?_ ?_
  · intro w' hC; clear hC; go_simp
  simp only [Act.put, List.setIfInBounds_toArray, List.set_cons_zero, List.set_cons_succ]
  refine j_cls (by rfl) (fun w' hC hcls => ⟨w'.heap.size, w'.alloc (.cells #[] 34), by go_simp, Spares.grows (grows_alloc _ _), World.ownsRow_lit w' #[] 0 hC.size (Nat.zero_le _) rfl⟩) ?_
  intro g1
  dsimp only
  simp only [Act.put, List.setIfInBounds_toArray, List.set_cons_zero, List.set_cons_succ]
  refine j_val (.pointer (some ⟨q, 0, none⟩)) (by rfl) ?_ ?_
  · intro w' hC; clear hC; go_simp
  simp only [Act.put, List.setIfInBounds_toArray, List.set_cons_zero, List.set_cons_succ]
  refine j_val (.pointer (some ⟨q, 0, none⟩)) (by rfl) ?_ ?_
  · intro w' hC; clear hC; go_simp
  simp only [Act.put, List.setIfInBounds_toArray, List.set_cons_zero, List.set_cons_succ]
  refine j_val (.pointer (some ⟨q, 0, none⟩)) (by rfl) ?_ ?_
  · intro w' hC; clear hC; go_simp
  simp only [Act.put, List.setIfInBounds_toArray, List.set_cons_zero, List.set_cons_succ]
  refine j_val (.slice (some ad) m c) (by rfl) ?_ ?_
  · intro w' hC; have z := HBX.out w' hC; clear hC; go_simp
  simp only [Act.put, List.setIfInBounds_toArray, List.set_cons_zero, List.set_cons_succ]
  refine j_val (.int .i64 (j : Int)) (by rfl) ?_ ?_
  · intro w' hC; clear hC; go_simp
  simp only [Act.put, List.setIfInBounds_toArray, List.set_cons_zero, List.set_cons_succ]
  refine j_val (.slice (some ad) j c) (by rfl) ?_ ?_
  · intro w' hC; have k0 := HKI.out; clear hC; go_simp
  simp only [Act.put, List.setIfInBounds_toArray, List.set_cons_zero, List.set_cons_succ]
  refine j_clsk (by rfl) (fun w' hC hcls hks => ?_) ?_
  · obtain ⟨A', c', w2, hr, ho2, hg2⟩ := run_append_part (ty := 40) hcls (ad := ad) (m := j) (c' := c) (fun t u h => HTK.out w' hC t u h) (⟨HJL.out.1, by have := HJL.out.2.2.1; omega⟩) hC.size (k := j) (by omega) (l3 := l.take j) (by simp)
    exact ⟨(A', c'), w2, exec_app rfl rfl rfl hr, (Spares.refl _ _).grown hg2 (fun k e => (owned_lt3 hcls e).1), ho2⟩
  rintro ⟨A2, c2⟩
  dsimp only
  simp only [Act.put, List.setIfInBounds_toArray, List.set_cons_zero, List.set_cons_succ]
  refine j_val (.pointer (some ⟨q, 0, none⟩)) (by rfl) ?_ ?_
  · intro w' hC; clear hC; go_simp
  simp only [Act.put, List.setIfInBounds_toArray, List.set_cons_zero, List.set_cons_succ]
  refine j_val (.pointer (some ⟨q, 0, none⟩)) (by rfl) ?_ ?_
  · intro w' hC; clear hC; go_simp
  simp only [Act.put, List.setIfInBounds_toArray, List.set_cons_zero, List.set_cons_succ]
  refine j_val (.pointer (some ⟨q, 0, none⟩)) (by rfl) ?_ ?_
  · intro w' hC; clear hC; go_simp
  simp only [Act.put, List.setIfInBounds_toArray, List.set_cons_zero, List.set_cons_succ]
  refine j_val (.slice (some ad) m c) (by rfl) ?_ ?_
  · intro w' hC; have z := HBX.out w' hC; clear hC; go_simp
  simp only [Act.put, List.setIfInBounds_toArray, List.set_cons_zero, List.set_cons_succ]
  refine j_val (.int .i64 (j : Int)) (by rfl) ?_ ?_
  · intro w' hC; clear hC; go_simp
  simp only [Act.put, List.setIfInBounds_toArray, List.set_cons_zero, List.set_cons_succ]
  refine j_val (.int .i64 (i : Int)) (by rfl) ?_ ?_
  · intro w' hC; have k0 := HKI.out; clear hC; go_simp
  simp only [Act.put, List.setIfInBounds_toArray, List.set_cons_zero, List.set_cons_succ]
  refine j_val (.slice (some ad2) m2 c3) (by rfl) ?_ ?_
  · intro w' hC; have k1 := HSL.out w'; clear hC; go_simp
  simp only [Act.put, List.setIfInBounds_toArray, List.set_cons_zero, List.set_cons_succ]
  refine j_clsk (by rfl) (fun w' hC hcls hks => ?_) ?_
  · obtain ⟨A', c', w2, hr, ho2, hg2⟩ := run_append_part (ty := 40) hcls (ad := ad2) (m := m2) (c' := c3) (fun t u h => HDK.out w' hC t u h) (⟨HJL.out.2.1, HJL.out.2.2.2.1⟩) hC.size (k := j + m2) (by omega) (l3 := l.take j ++ l.drop i) (by simp)
    exact ⟨(A', c'), w2, exec_app rfl rfl rfl hr, (Spares.refl _ _).grown hg2 (fun k e => (owned_lt3 hcls e).1), ho2⟩
  rintro ⟨A5, c5⟩
  dsimp only
  simp only [Act.put, List.setIfInBounds_toArray, List.set_cons_zero, List.set_cons_succ]
  refine wpJ_end ?_
  intro w5 hC hks hcls
  have HCw5 := Lib.hid hC
  have HLw5 := Lib.hid hcls
  clear hC hks hcls
  have hbx := HFR.out w5 HCw5.out
  have d0 := hbx.cell
  have fz : w5.frozen? ⟨q, 0, none⟩ = false := Whole.free (show Whole w5 q 54 #[_] from hbx) 0
  have H5 := Lib.hid hbx
  clear hbx
  go_wp2_with (fail)
  go_ret
  obtain ⟨hg1, hq⟩ := H1.out
  have hown := HLw5.out
  have hll := HJL.out.2.2.2.2
  have hnq : ∀ k, (Value.slice A5 (j + m2) c5).ownBlock = some k → k ≠ q := fun k hk e => by have := (owned_lt3 hown hk).1; have := hg1.size; omega
  have hgw : Grows w w5 := ((Spares.grows (own := fun k => w1.heap.size ≤ k) hg1).trans HCw5.out).below (Nat.le_refl _) fun k hk e => by have := hg1.size; omega
  have ho6 : (w5.setCell ⟨q, 0, none⟩ (.slice A5 (j + m2) c5)).ownsRow w1.heap.size 34 3 (.slice A5 (j + m2) c5) (j + m2) ((l.take j ++ l.drop i).flatMap usE) := owned_same3 hown fun k hk => Below.heap_setCell _ _ _ _ fun e => hnq k hk e
  refine ⟨rfl, A5, c5, ⟨?_, ?_, fun a e => ?_⟩, Spares.setCell (own := fun k => k = q) (p := ⟨q, 0, none⟩) (Spares.grows hgw) rfl _, .inr fun a e => ?_⟩
  · rw [hll]
    exact Whole.put (show Whole w5 q 54 #[_] from H5.out) 0 _
  · rw [hll]
    exact Rs.owned usL hll ho6
  · subst e
    exact hnq _ rfl
  · subst e
    have := (owned_lt3 hown (k := a.block) rfl).1
    have := hg1.size
    omega
end Go.Proofs.Ytlldcogkcjnejaa
