/-
  Statement CutParted: written at once, or in two parts, wherever it is parted, pieces are the same. Every size, all bytes, every place, no condition.
-/
import Derived.Test.YtlcpbkbojjpfaaaCutPart
import Derived.ProofKit
import Derived.ChangeOld
namespace Go.Proofs.Ytlcpbkbojjpfaaa
open Go.ChangeShapes Go.WideShapes Go.ChangeAt Go.RowKit
set_option linter.unusedSimpArgs false
set_option linter.unusedVariables false

theorem part_at {T n k N1 : Nat} (hN : n + 1 = N1) (hk : T % N1 = k) : k ≤ n ∧ ¬ N1 = 0 := by
  subst hN hk
  have := Nat.mod_lt T (show 0 < n + 1 by omega)
  exact ⟨by omega, by omega⟩
theorem small_of {n : Nat} (h : ¬ (9000 : Int) < (n : Int)) : n ≤ 9000 := by omega
theorem fit_k {k n : Nat} (h : k ≤ n) (hn : n ≤ 9000) : k ≤ 1000000000000 ∧ n + 1 ≤ 1000000000000 := by omega
theorem tmod_natP (a P R : Nat) (h : a % P = R) : ((a : Nat) : Int).tmod (P : Int) = (R : Int) := by
  subst h
  rw [Int.tmod_eq_emod_of_nonneg (Int.natCast_nonneg a)]
  rfl
set_option maxRecDepth 100000 in
set_option maxHeartbeats 8000000 in
theorem cutParted_law (w : World) (s : Int) (hs : 0 ≤ s ∧ s < 256) (A : Option Addr) (n c : Nat) (xs : List UInt8) (hx : Came w A n c xs) (t : Int) (ht : 0 ≤ t ∧ t < 65536) :
    Calls Try.prog 7 #[.int .u8 s, .slice A n c, .int .u16 t] w fun e w' => e = .returned (.bool true) ∧ Below w.heap.size w w' := by
  obtain ⟨S, rfl⟩ := Int.eq_ofNat_of_zero_le hs.1
  obtain ⟨T, rfl⟩ := Int.eq_ofNat_of_zero_le ht.1
  have HX := Lib.hid hx.sl
  have hnc := hx.cap
  have hreach := hx.reach
  obtain ⟨P, hP⟩ : ∃ P, 1 + S = P := ⟨_, rfl⟩
  have HPB := Lib.hid (show 1 ≤ P ∧ P ≤ 4096 by omega)
  have kp : IntKind.i64.wrap ((1 : Int) + (S : Int)) = (P : Int) := (fit_sum 1 S P hP (by omega)).1
  have kp2 : wrap64 ((1 : Int) + (S : Int)) = (P : Int) := (fit_sum 1 S P hP (by omega)).2
  obtain ⟨ks, ks2⟩ := fit_one S (by omega)
  obtain ⟨kt, kt2⟩ := fit_one T (by omega)
  clear hx hs ht hP
  go_enter Try.func7, Try.ntmps7
  go_wp2_with (fail)
  refine (cutHead_any w).mono ?_
  rintro e w0 ⟨rfl, hb0⟩
  have HG0 := Lib.hid hb0
  clear hb0
  go_wp2_with (fail)
  clear kp kp2
  refine (make_cut P w0 HPB.out).mono ?_
  rintro e w1 ⟨rfl, hc1, hg1⟩
  have H1 := Lib.hid (And.intro hc1 hg1)
  clear hc1 hg1
  go_wp2_with (fail)
  refine (make_cut P w1 HPB.out).mono ?_
  rintro e w2 ⟨rfl, hc2, hg2⟩
  have H2 := Lib.hid (And.intro hc2 (And.intro hg2 (Below.trans HG0.out (Below.mono (Grows.trans H1.out.2 hg2) HG0.out.size))))
  clear hc2 hg2
  by_cases hbig : (9000 : Int) < (n : Int)
  · go_wp2_with (fail)
    go_ret
    exact ⟨rfl, H2.out.2.2⟩
  have hn9 := small_of hbig
  have kn : IntKind.i64.wrap ((n : Int) + 1) = ((n + 1 : Nat) : Int) := (fit_sum n 1 (n + 1) rfl (fit_k (Nat.le_refl n) hn9).2).1
  have kn2 : wrap64 ((n : Int) + 1) = ((n + 1 : Nat) : Int) := (fit_sum n 1 (n + 1) rfl (fit_k (Nat.le_refl n) hn9).2).2
  obtain ⟨N1, hN1⟩ : ∃ N1, n + 1 = N1 := ⟨_, rfl⟩
  rw [hN1] at kn kn2
  obtain ⟨k, hk⟩ : ∃ k, T % N1 = k := ⟨_, rfl⟩
  obtain ⟨hkn, hN0⟩ := part_at hN1 hk
  have hmod : (T : Int).tmod (N1 : Int) = (k : Int) := tmod_natP _ _ _ hk
  obtain ⟨kk, kk2⟩ := fit_one k (fit_k hkn hn9).1
  clear hN1 hk
  go_wp2_with (fail)
  have HKN := Lib.hid (And.intro hkn (And.intro hn9 hnc))
  clear hmod hN0 kn kn2 kt kt2 ks ks2 kk kk2 hreach hbig
  have hc2x := H1.out.1.grow H2.out.2.1
  have hc2y := H2.out.1.from H1.out.2.size
  have hne : w0.heap.size ≠ w1.heap.size := by have := H1.out.1.cells.lt; omega
  have hfar : 0 < n → ∀ ad, A = some ad → ad.block < w.heap.size := fun h0 ad e => by
    obtain ⟨ad', e', hb, _⟩ := HX.out.bytes.spot (k := 0) h0
    rw [e] at e'
    injection e' with e'
    rw [e']
    exact hb
  have hw0 := HG0.out.size
  have HN := Lib.hid (And.intro hne (And.intro hfar hw0))
  have hb02 : w0.heap.size ≤ w2.heap.size := Nat.le_trans H1.out.2.size H2.out.2.1.size
  refine (write_lowH w0.heap.size w0.heap.size P 0 _ [] A n c xs w2 hc2x (Nat.le_refl _) (HX.out.grow H2.out.2.2) (fun h0 ad e => ⟨by have := hfar h0 ad e; omega, by simp [Value.ownBlock]⟩) HPB.out.2 (by omega) (by omega) hb02).mono ?_
  rintro e w3 ⟨A1, m1, c1, v1, hs1, rfl, hl1, hc3x, hb3, hsp3, hv1⟩
  rw [List.nil_append] at hl1 hc3x
  have hc3y : CutHas w3 w1.heap.size w0.heap.size P 0 (.slice none 0 0) [] := hc2y.keep fun k hk => by
    rcases hk with rfl | hk
    · refine hsp3.same _ hc2y.cells.lt ?_
      rintro (e | e)
      · exact hne e.symm
      · simp [Value.ownBlock] at e
    · simp [Value.ownBlock] at hk
  have hG3 : Below w.heap.size w w3 := Below.trans H2.out.2.2 (Below.mono hb3 hw0)
  have H3 := Lib.hid (And.intro hl1 (And.intro hc3x (And.intro hc3y hG3)))
  have hb03 : w0.heap.size ≤ w3.heap.size := Nat.le_trans hb02 hb3.size
  have kc : (k : Int) ≤ (c : Int) := by omega
  have k0 : (0 : Int) ≤ (k : Int) := by omega
  have k1 : (k : Int) ≤ (n : Int) := by omega
  have HB03 := Lib.hid hb03
  clear hl1 hc3x hc3y hG3 hb3 hsp3 hv1 hc2x hc2y hfar hb02 hb03 hne hw0 hn9
  go_wp2_with (fail)
  refine (write_lowH w1.heap.size w0.heap.size P 0 _ [] A k c (xs.take k) w3 H3.out.2.2.1 H1.out.2.size ((HX.out.grow H3.out.2.2.2).first hkn) (fun h0 ad e => ⟨by have := HN.out.2.1 (by omega) ad e; have := H1.out.2.size; have := HN.out.2.2; omega, by simp [Value.ownBlock]⟩) HPB.out.2 (by omega) (by omega) HB03.out).mono ?_
  rintro e w4 ⟨A2, m2, c2, v2, hs2, rfl, hl2, hc4y, hb4, hsp4, hv2⟩
  rw [List.nil_append] at hl2 hc4y
  have hk34 : Keeps v1 w3 w4 := (Keeps.grows (Grows.refl _)).spares (.inl H3.out.2.2.1.cells) (fun k hk => by simp [Value.ownBlock] at hk) hsp4
  have hc4x : CutHas w4 w0.heap.size w0.heap.size P (0 + n) v1 (restB P xs) := H3.out.2.1.keep fun k hk => by
    refine hsp4.same _ ?_ ?_
    · rcases hk with rfl | hk
      · exact H3.out.2.1.cells.lt
      · exact (owned_lt H3.out.2.1.left hk).2
    · rintro (e | e)
      · rcases hk with rfl | hk
        · exact HN.out.1 e
        · exact owned_type H3.out.2.1.left H3.out.2.2.1.cells (by decide) (by rw [hk, e])
      · simp [Value.ownBlock] at e
  have hG4 : Below w.heap.size w w4 := Below.trans H3.out.2.2.2 (Below.mono hb4 HN.out.2.2)
  have hs4 := HX.out.grow hG4
  have H4 := Lib.hid (And.intro hl2 (And.intro hc4x (And.intro hc4y (And.intro hG4 (And.intro hk34 hv2)))))
  have HB04 := Lib.hid (Nat.le_trans HB03.out hb4.size)
  clear hl2 hc4x hc4y hG4 hb4 hsp4 hv2 hk34
  by_cases hck : c = k
  · obtain rfl : n = c := by omega
    obtain rfl : n = k := hck
    have hd0 : xs.drop n = [] := List.drop_of_length_le (by have := hs4.len; omega)
    have HS4 : Hid (Sl w4 A 0 0 (xs.drop n)) := Lib.hid ⟨by rw [hd0]; exact Row.nil _ _ _, Nat.le_refl _, fun _ => rfl⟩
    have HF4 : Hid (0 < 0 → ∀ ad, A = some ad → ad.block < w.heap.size) := Lib.hid fun h => absurd h (Nat.lt_irrefl 0)
    clear hs4 hd0
    go_wp2_with (fail)
    refine (write_lowH w1.heap.size w0.heap.size P _ v2 _ A 0 0 (xs.drop n) w4 H4.out.2.2.1 H1.out.2.size HS4.out (fun h0 x e => ⟨by have := HF4.out h0 x e; have := H1.out.2.size; have := HN.out.2.2; omega, fun e2 => by have h1 := (owned_lt H4.out.2.2.1.left e2).1; have h2 := HF4.out h0 x e; have := HN.out.2.2; omega⟩) HPB.out.2 (by omega) (by omega) HB04.out).mono ?_
    rintro e W ⟨A3, m3, c3, v3, hs3, rfl, hl3, hc5y, hb5, hsp5, hv3⟩
    have hrest : restB P (restB P (xs.take n) ++ xs.drop n) = restB P xs := by rw [← rest_parted (by have := HPB.out; omega), List.take_append_drop]
    have hps : piecesB P xs = piecesB P (xs.take n) ++ piecesB P (restB P (xs.take n) ++ xs.drop n) := by rw [← pieces_parted (by have := HPB.out; omega), List.take_append_drop]
    rw [hrest] at hc5y
    have hc5x : CutHas W w0.heap.size w0.heap.size P (0 + n) v1 (restB P xs) := H4.out.2.1.keep fun j hj => by
      refine hsp5.same _ ?_ ?_
      · rcases hj with rfl | hj
        · exact H4.out.2.1.cells.lt
        · exact (owned_lt H4.out.2.1.left hj).2
      · rintro (e | e)
        · rcases hj with rfl | hj
          · exact HN.out.1 e
          · exact owned_type H4.out.2.1.left H4.out.2.2.1.cells (by decide) (by rw [hj, e])
        · rcases hj with rfl | hj
          · exact owned_type H4.out.2.2.1.left H4.out.2.1.cells (by decide) e
          · rcases H4.out.2.2.2.2.2 _ e with e | e
            · simp [Value.ownBlock] at e
            · have := (owned_lt H3.out.2.1.left hj).2
              omega
    obtain ⟨X1, d1, rfl, _⟩ := hc5x.slice
    obtain ⟨Y1, d2, rfl, _⟩ := hc5y.slice
    have hk35 := H4.out.2.2.2.2.1.spares (.inl H3.out.2.2.1.cells) (fun j hj => by
      rcases H4.out.2.2.2.2.2 _ hj with e | e
      · simp [Value.ownBlock] at e
      · exact .inr e) hsp5
    have hk45 : Keeps v2 w4 W := (Keeps.grows (Grows.refl _)).spares (.inl H4.out.2.2.1.cells) (fun j hj => .inl hj) hsp5
    have hk55 : Keeps (.slice Y1 (restB P xs).length d2) W W := Keeps.grows (Grows.refl _)
    have hl3n := (hl3 W hk55).len
    have hl2n := (H4.out.1 w4 (Keeps.grows (Grows.refl _))).len
    have hl1n := (H3.out.1 w3 (Keeps.grows (Grows.refl _))).len
    have hrl : (restB P (xs.take n)).length ≤ xs.length := by
      have h1 := rest_len (P := P) (T := xs.take n) (by have := HPB.out; omega)
      have h2 := Nat.mod_le (xs.take n).length P
      have h3 := List.length_take_le' n xs
      omega
    have hxl := HX.out.len
    have hf1 := pieces_few P xs
    have hf2 := pieces_few P (xs.take n)
    have hf3 := pieces_few P (restB P (xs.take n) ++ xs.drop n)
    have h4 := List.length_take_le' n xs
    rw [List.length_append, List.length_drop] at hf3
    have hm1 : m1 ≤ 9000 := by omega
    have hm2 : m2 ≤ 9000 := by omega
    have hm3 : m3 ≤ 18000 := by omega
    have hB5 : w0.heap.size ≤ W.heap.size := Nat.le_trans HB04.out hb5.size
    have HB5 := Lib.hid (And.intro hB5 (Below.trans H4.out.2.2.2.1 (Below.mono hb5 HN.out.2.2)))
    have hxy : XY w0.heap.size w1.heap.size w0.heap.size P (0 + n) (0 + n + 0) (.slice X1 (restB P xs).length d1) (.slice Y1 (restB P xs).length d2) (restB P xs) (restB P xs) W := ⟨hc5x, hc5y, HN.out.1⟩
    have HXY := Lib.hid hxy
    have HL1 := Lib.hid (fun w' (hC : Spares (ownP w0.heap.size w1.heap.size W.heap.size) W w') => H3.out.1 w' (hk35.two H3.out.2.1.cells H3.out.2.2.1.cells hC))
    have HL2 := Lib.hid (fun w' (hC : Spares (ownP w0.heap.size w1.heap.size W.heap.size) W w') => H4.out.1 w' (hk45.two H4.out.2.1.cells H4.out.2.2.1.cells hC))
    have HL3 := Lib.hid (fun w' (hC : Spares (ownP w0.heap.size w1.heap.size W.heap.size) W w') => hl3 w' (hk55.two hc5x.cells hc5y.cells hC))
    have HX1 := Lib.hid (fun w' (hC : Spares (ownP w0.heap.size w1.heap.size W.heap.size) W w') => hxy.x.slT hxy.y hC)
    have HY1 := Lib.hid (fun w' (hC : Spares (ownP w0.heap.size w1.heap.size W.heap.size) W w') => hxy.y.slU hxy.x hC)
    have HPS := Lib.hid hps
    have HBND : Hid (0 + m2 ≤ 1000000000 ∧ 0 + m2 + m3 ≤ 1000000000) := Lib.hid ⟨by omega, by omega⟩
    have HBN1 : Hid (m1 ≤ 140737488351232) := Lib.hid (by omega)
    have HBW := Lib.hid hB5
    clear hxy hk35 hk45 hk55 hl3 hc5x hc5y hsp5 hb5 hv3 hB5 hps hrest hm1 hm2 hm3 hl1n hl2n hl3n hrl hf1 hf2 hf3 h4 hxl
    generalize restB P xs = L at *
    go_wp2_with (fail)
    refine wp_region_jobs (G := Grows) (E := Spares (ownP w0.heap.size w1.heap.size W.heap.size)) 19 [valJob (ownP w0.heap.size w1.heap.size W.heap.size) (.bool true), valJob (ownP w0.heap.size w1.heap.size W.heap.size) (.bool true), valJob (ownP w0.heap.size w1.heap.size W.heap.size) (.slice A1 m1 c1), clsJob (ownP w0.heap.size w1.heap.size W.heap.size) Nat 0 (fun g => .slice (some ⟨g, 0, none⟩) 0 0) (fun g w => XY w0.heap.size w1.heap.size w0.heap.size P (0 + n) (0 + n + 0) (.slice X1 L.length d1) (.slice Y1 L.length d2) L L w ∧ w.ownsRow W.heap.size 23 1 (.slice (some ⟨g, 0, none⟩) (0) 0) (0) ([])) (fun _ _ _ h g => ⟨h.1.grow g, owned_grow h.2 g⟩), valJob (ownP w0.heap.size w1.heap.size W.heap.size) (.slice A2 m2 c2), clsJob (ownP w0.heap.size w1.heap.size W.heap.size) (Option Addr × Nat) (none, 0) (fun p => .slice p.1 (0 + m2) p.2) (fun p w => XY w0.heap.size w1.heap.size w0.heap.size P (0 + n) (0 + n + 0) (.slice X1 L.length d1) (.slice Y1 L.length d2) L L w ∧ w.ownsRow W.heap.size 23 1 (.slice p.1 (0 + m2) p.2) (0 + m2) ([] ++ hs2.map slV)) (fun _ _ _ h g => ⟨h.1.grow g, owned_grow h.2 g⟩), valJob (ownP w0.heap.size w1.heap.size W.heap.size) (.slice A3 m3 c3), clsJob (ownP w0.heap.size w1.heap.size W.heap.size) (Option Addr × Nat) (none, 0) (fun p => .slice p.1 (0 + m2 + m3) p.2) (fun p w => XY w0.heap.size w1.heap.size w0.heap.size P (0 + n) (0 + n + 0) (.slice X1 L.length d1) (.slice Y1 L.length d2) L L w ∧ w.ownsRow W.heap.size 23 1 (.slice p.1 (0 + m2 + m3) p.2) (0 + m2 + m3) ([] ++ hs2.map slV ++ hs3.map slV)) (fun _ _ _ h g => ⟨h.1.grow g, owned_grow h.2 g⟩), rdJob (ownP w0.heap.size w1.heap.size W.heap.size) (.bool true), valJob (ownP w0.heap.size w1.heap.size W.heap.size) (.bool true), valJob (ownP w0.heap.size w1.heap.size W.heap.size) (.bool true), valJob (ownP w0.heap.size w1.heap.size W.heap.size) (.pointer (some ⟨w0.heap.size, 0, none⟩)), wrJob (ownP w0.heap.size w1.heap.size W.heap.size) (.slice X1 L.length d1) (XY w0.heap.size w1.heap.size w0.heap.size P (0 + n) (0 + n + 0) (.slice none 0 0) (.slice Y1 L.length d2) [] L) (fun _ _ h g => h.grow g), valJob (ownP w0.heap.size w1.heap.size W.heap.size) (.string ⟨L.toArray⟩), valJob (ownP w0.heap.size w1.heap.size W.heap.size) (.pointer (some ⟨w1.heap.size, 0, none⟩)), wrJob (ownP w0.heap.size w1.heap.size W.heap.size) (.slice Y1 L.length d2) (XY w0.heap.size w1.heap.size w0.heap.size P (0 + n) (0 + n + 0) (.slice none 0 0) (.slice none 0 0) [] []) (fun _ _ h g => h.grow g), valJob (ownP w0.heap.size w1.heap.size W.heap.size) (.string ⟨L.toArray⟩), valJob (ownP w0.heap.size w1.heap.size W.heap.size) (.bool true), valJob (ownP w0.heap.size w1.heap.size W.heap.size) (.bool true)] [(false, false), (false, false), (false, false), (true, true), (false, false), (true, true), (false, false), (true, true), (true, false), (false, false), (false, false), (false, false), (true, true), (false, false), (false, false), (true, true), (false, false), (false, false), (false, false)] (XY w0.heap.size w1.heap.size w0.heap.size P (0 + n) (0 + n + 0) (.slice X1 L.length d1) (.slice Y1 L.length d2) L L) rfl mixed (by kernel_rfl) (fun _ _ => Spares.grows) (fun _ _ _ => Spares.trans) (spares_drew _ _) (HXY.out.grow (grows_drew _)) (fun _ _ h g => h.grow g) ?_
    simp only [List.take_succ_cons, List.take_zero, List.drop_succ_cons, List.drop_zero]
    refine j_val (.bool true) (by rfl) ?_ ?_
    · intro w' hC; clear hC; go_simp
    simp only [Act.put, List.setIfInBounds_toArray, List.set_cons_zero, List.set_cons_succ]
    refine j_val (.bool true) (by rfl) ?_ ?_
    · intro w' hC; clear hC; go_simp
    simp only [Act.put, List.setIfInBounds_toArray, List.set_cons_zero, List.set_cons_succ]
    refine j_val (.slice A1 m1 c1) (by rfl) ?_ ?_
    · intro w' hC; clear hC; go_simp
    simp only [Act.put, List.setIfInBounds_toArray, List.set_cons_zero, List.set_cons_succ]
    refine j_cls (by rfl) (fun w' hC hcls => ⟨w'.heap.size, w'.alloc (.cells #[] 23), by go_simp, Spares.grows (grows_alloc _ _), hcls.grow (grows_alloc _ _), World.ownsRow_lit w' #[] 0 hC.size (Nat.zero_le _) rfl⟩) ?_
    intro gb
    simp only [Act.put, List.setIfInBounds_toArray, List.set_cons_zero, List.set_cons_succ]
    refine j_val (.slice A2 m2 c2) (by rfl) ?_ ?_
    · intro w' hC; clear hC; go_simp
    simp only [Act.put, List.setIfInBounds_toArray, List.set_cons_zero, List.set_cons_succ]
    refine j_cls (by rfl) (fun w' hC hcls => ?_) ?_
    · obtain ⟨A', c', w'', hrun, ho, hg⟩ := run_append_rows (ty := 51) hcls.2 (HL2.out w' hC).row (HL2.out w' hC).bare HBND.out.1 hC.size
      exact ⟨(A', c'), w'', exec_append rfl rfl rfl hrun, own_grown hcls.2 (Nat.le_refl _) hg, hcls.1.row hcls.2 hg, ho⟩
    rintro ⟨A5, c5⟩
    dsimp only
    simp only [Act.put, List.setIfInBounds_toArray, List.set_cons_zero, List.set_cons_succ]
    refine j_val (.slice A3 m3 c3) (by rfl) ?_ ?_
    · intro w' hC; clear hC; go_simp
    simp only [Act.put, List.setIfInBounds_toArray, List.set_cons_zero, List.set_cons_succ]
    refine j_cls (by rfl) (fun w' hC hcls => ?_) ?_
    · obtain ⟨A', c', w'', hrun, ho, hg⟩ := run_append_rows (ty := 51) hcls.2 (HL3.out w' hC).row (HL3.out w' hC).bare HBND.out.2 hC.size
      exact ⟨(A', c'), w'', exec_append rfl rfl rfl hrun, own_grown hcls.2 (Nat.le_refl _) hg, hcls.1.row hcls.2 hg, ho⟩
    rintro ⟨A6, c6⟩
    dsimp only
    simp only [Act.put, List.setIfInBounds_toArray, List.set_cons_zero, List.set_cons_succ]
    refine j_rcall 37 #[.slice A1 m1 c1, .slice A6 (0 + m2 + m3) c6] (.bool true) (by rfl) (by intro w' hC; clear hC; go_simp) ?_ ?_
    · intro w' hC hcls; exact same_true (HL1.out w' hC).lists (lists_two (HL2.out w' hC) (HL3.out w' hC) hcls.2) HPS.out HBN1.out (by have := HBND.out.2; omega)
    simp only [Act.put, List.setIfInBounds_toArray, List.set_cons_zero, List.set_cons_succ]
    refine j_val (.bool true) (by rfl) ?_ ?_
    · intro w' hC; clear hC; go_simp
    simp only [Act.put, List.setIfInBounds_toArray, List.set_cons_zero, List.set_cons_succ]
    refine j_val (.bool true) (by rfl) ?_ ?_
    · intro w' hC; clear hC; go_simp
    simp only [Act.put, List.setIfInBounds_toArray, List.set_cons_zero, List.set_cons_succ]
    refine j_val (.pointer (some ⟨w0.heap.size, 0, none⟩)) (by rfl) ?_ ?_
    · intro w' hC; clear hC; go_simp
    simp only [Act.put, List.setIfInBounds_toArray, List.set_cons_zero, List.set_cons_succ]
    refine j_write 33 #[.pointer (some ⟨w0.heap.size, 0, none⟩)] (.slice X1 L.length d1) (by rfl) (by intro w' hC; clear hC; go_simp) ?_ ?_
    · intro w' hC hcls; exact (rest_cut w' (Nat.le_trans HBW.out hC.size) hcls.1.x).mono fun e w'' ⟨he, _, hx, hs⟩ => ⟨he, hs.wider (fun k _ h => .inl h), hx, hcls.1.y.besides hcls.1.x hcls.1.ne.symm hs, hcls.1.ne⟩
    simp only [Act.put, List.setIfInBounds_toArray, List.set_cons_zero, List.set_cons_succ]
    refine j_val (.string ⟨L.toArray⟩) (by rfl) ?_ ?_
    · intro w' hC; have hs := run_string (HX1.out w' hC); clear hC; go_simp
    simp only [Act.put, List.setIfInBounds_toArray, List.set_cons_zero, List.set_cons_succ]
    refine j_val (.pointer (some ⟨w1.heap.size, 0, none⟩)) (by rfl) ?_ ?_
    · intro w' hC; clear hC; go_simp
    simp only [Act.put, List.setIfInBounds_toArray, List.set_cons_zero, List.set_cons_succ]
    refine j_write 33 #[.pointer (some ⟨w1.heap.size, 0, none⟩)] (.slice Y1 L.length d2) (by rfl) (by intro w' hC; clear hC; go_simp) ?_ ?_
    · intro w' hC hcls; exact (rest_cut w' (Nat.le_trans HBW.out hC.size) hcls.y).mono fun e w'' ⟨he, _, hy, hs⟩ => ⟨he, hs.wider (fun k _ h => .inr (.inl h)), hcls.x.besides hcls.y hcls.ne hs, hy, hcls.ne⟩
    simp only [Act.put, List.setIfInBounds_toArray, List.set_cons_zero, List.set_cons_succ]
    refine j_val (.string ⟨L.toArray⟩) (by rfl) ?_ ?_
    · intro w' hC; have hs := run_string (HY1.out w' hC); clear hC; go_simp
    simp only [Act.put, List.setIfInBounds_toArray, List.set_cons_zero, List.set_cons_succ]
    refine j_val (.bool true) (by rfl) ?_ ?_
    · intro w' hC; clear hC; go_simp
    simp only [Act.put, List.setIfInBounds_toArray, List.set_cons_zero, List.set_cons_succ]
    refine j_val (.bool true) (by rfl) ?_ ?_
    · intro w' hC; clear hC; go_simp
    simp only [Act.put, List.setIfInBounds_toArray, List.set_cons_zero, List.set_cons_succ]
    refine wpJ_end ?_
    intro w9 hC hks hcls
    have HCw9 := Lib.hid hC
    have HLw9 := Lib.hid hcls
    clear hC hks hcls
    go_wp2_with (fail)
    go_ret
    exact ⟨rfl, Below.trans HB5.out.2 (HCw9.out.below HB5.out.2.size (fun j hj e => by
      have h1 := HN.out.2.2
      have h2 := H1.out.2.size
      have h3 := HBW.out
      rcases e with e | e | e
      · omega
      · omega
      · omega))⟩
  · obtain ⟨ad, rfl⟩ : ∃ ad, A = some ad := by
      cases A with
      | none => exact absurd (hs4.bare rfl) (by omega)
      | some ad => exact ⟨ad, rfl⟩
    have hpart := hs4.part (k := k) (m := n) hkn (Nat.le_refl _) hck
    rw [List.take_of_length_le (by have := hs4.len; omega)] at hpart
    have HS4 := Lib.hid hpart
    have HF4 : Hid (0 < n - k → ∀ x, (some (ad.add k) : Option Addr) = some x → x.block < w.heap.size) := Lib.hid fun h0 x e => by
      injection e with e
      rw [← e, add_block]
      exact HN.out.2.1 (by omega) ad rfl
    have hck' : ¬ (c : Int) = (k : Int) := by omega
    clear hs4 hpart
    go_wp2_with (fail)
    refine (write_lowH w1.heap.size w0.heap.size P _ v2 _ (some (ad.add k)) (n - k) (c - k) (xs.drop k) w4 H4.out.2.2.1 H1.out.2.size HS4.out (fun h0 x e => ⟨by have := HF4.out h0 x e; have := H1.out.2.size; have := HN.out.2.2; omega, fun e2 => by have h1 := (owned_lt H4.out.2.2.1.left e2).1; have h2 := HF4.out h0 x e; have := HN.out.2.2; omega⟩) HPB.out.2 (by omega) (by omega) HB04.out).mono ?_
    rintro e W ⟨A3, m3, c3, v3, hs3, rfl, hl3, hc5y, hb5, hsp5, hv3⟩
    have hrest : restB P (restB P (xs.take k) ++ xs.drop k) = restB P xs := by rw [← rest_parted (by have := HPB.out; omega), List.take_append_drop]
    have hps : piecesB P xs = piecesB P (xs.take k) ++ piecesB P (restB P (xs.take k) ++ xs.drop k) := by rw [← pieces_parted (by have := HPB.out; omega), List.take_append_drop]
    rw [hrest] at hc5y
    have hc5x : CutHas W w0.heap.size w0.heap.size P (0 + n) v1 (restB P xs) := H4.out.2.1.keep fun j hj => by
      refine hsp5.same _ ?_ ?_
      · rcases hj with rfl | hj
        · exact H4.out.2.1.cells.lt
        · exact (owned_lt H4.out.2.1.left hj).2
      · rintro (e | e)
        · rcases hj with rfl | hj
          · exact HN.out.1 e
          · exact owned_type H4.out.2.1.left H4.out.2.2.1.cells (by decide) (by rw [hj, e])
        · rcases hj with rfl | hj
          · exact owned_type H4.out.2.2.1.left H4.out.2.1.cells (by decide) e
          · rcases H4.out.2.2.2.2.2 _ e with e | e
            · simp [Value.ownBlock] at e
            · have := (owned_lt H3.out.2.1.left hj).2
              omega
    obtain ⟨X1, d1, rfl, _⟩ := hc5x.slice
    obtain ⟨Y1, d2, rfl, _⟩ := hc5y.slice
    have hk35 := H4.out.2.2.2.2.1.spares (.inl H3.out.2.2.1.cells) (fun j hj => by
      rcases H4.out.2.2.2.2.2 _ hj with e | e
      · simp [Value.ownBlock] at e
      · exact .inr e) hsp5
    have hk45 : Keeps v2 w4 W := (Keeps.grows (Grows.refl _)).spares (.inl H4.out.2.2.1.cells) (fun j hj => .inl hj) hsp5
    have hk55 : Keeps (.slice Y1 (restB P xs).length d2) W W := Keeps.grows (Grows.refl _)
    have hl3n := (hl3 W hk55).len
    have hl2n := (H4.out.1 w4 (Keeps.grows (Grows.refl _))).len
    have hl1n := (H3.out.1 w3 (Keeps.grows (Grows.refl _))).len
    have hrl : (restB P (xs.take k)).length ≤ xs.length := by
      have h1 := rest_len (P := P) (T := xs.take k) (by have := HPB.out; omega)
      have h2 := Nat.mod_le (xs.take k).length P
      have h3 := List.length_take_le' k xs
      omega
    have hxl := HX.out.len
    have hf1 := pieces_few P xs
    have hf2 := pieces_few P (xs.take k)
    have hf3 := pieces_few P (restB P (xs.take k) ++ xs.drop k)
    have h4 := List.length_take_le' k xs
    rw [List.length_append, List.length_drop] at hf3
    have hm1 : m1 ≤ 9000 := by omega
    have hm2 : m2 ≤ 9000 := by omega
    have hm3 : m3 ≤ 18000 := by omega
    have hB5 : w0.heap.size ≤ W.heap.size := Nat.le_trans HB04.out hb5.size
    have HB5 := Lib.hid (And.intro hB5 (Below.trans H4.out.2.2.2.1 (Below.mono hb5 HN.out.2.2)))
    have hxy : XY w0.heap.size w1.heap.size w0.heap.size P (0 + n) (0 + k + (n - k)) (.slice X1 (restB P xs).length d1) (.slice Y1 (restB P xs).length d2) (restB P xs) (restB P xs) W := ⟨hc5x, hc5y, HN.out.1⟩
    have HXY := Lib.hid hxy
    have HL1 := Lib.hid (fun w' (hC : Spares (ownP w0.heap.size w1.heap.size W.heap.size) W w') => H3.out.1 w' (hk35.two H3.out.2.1.cells H3.out.2.2.1.cells hC))
    have HL2 := Lib.hid (fun w' (hC : Spares (ownP w0.heap.size w1.heap.size W.heap.size) W w') => H4.out.1 w' (hk45.two H4.out.2.1.cells H4.out.2.2.1.cells hC))
    have HL3 := Lib.hid (fun w' (hC : Spares (ownP w0.heap.size w1.heap.size W.heap.size) W w') => hl3 w' (hk55.two hc5x.cells hc5y.cells hC))
    have HX1 := Lib.hid (fun w' (hC : Spares (ownP w0.heap.size w1.heap.size W.heap.size) W w') => hxy.x.slT hxy.y hC)
    have HY1 := Lib.hid (fun w' (hC : Spares (ownP w0.heap.size w1.heap.size W.heap.size) W w') => hxy.y.slU hxy.x hC)
    have HPS := Lib.hid hps
    have HBND : Hid (0 + m2 ≤ 1000000000 ∧ 0 + m2 + m3 ≤ 1000000000) := Lib.hid ⟨by omega, by omega⟩
    have HBN1 : Hid (m1 ≤ 140737488351232) := Lib.hid (by omega)
    have HBW := Lib.hid hB5
    clear hxy hk35 hk45 hk55 hl3 hc5x hc5y hsp5 hb5 hv3 hB5 hps hrest hm1 hm2 hm3 hl1n hl2n hl3n hrl hf1 hf2 hf3 h4 hxl
    generalize restB P xs = L at *
    go_wp2_with (fail)
    refine wp_region_jobs (G := Grows) (E := Spares (ownP w0.heap.size w1.heap.size W.heap.size)) 19 [valJob (ownP w0.heap.size w1.heap.size W.heap.size) (.bool true), valJob (ownP w0.heap.size w1.heap.size W.heap.size) (.bool true), valJob (ownP w0.heap.size w1.heap.size W.heap.size) (.slice A1 m1 c1), clsJob (ownP w0.heap.size w1.heap.size W.heap.size) Nat 0 (fun g => .slice (some ⟨g, 0, none⟩) 0 0) (fun g w => XY w0.heap.size w1.heap.size w0.heap.size P (0 + n) (0 + k + (n - k)) (.slice X1 L.length d1) (.slice Y1 L.length d2) L L w ∧ w.ownsRow W.heap.size 23 1 (.slice (some ⟨g, 0, none⟩) (0) 0) (0) ([])) (fun _ _ _ h g => ⟨h.1.grow g, owned_grow h.2 g⟩), valJob (ownP w0.heap.size w1.heap.size W.heap.size) (.slice A2 m2 c2), clsJob (ownP w0.heap.size w1.heap.size W.heap.size) (Option Addr × Nat) (none, 0) (fun p => .slice p.1 (0 + m2) p.2) (fun p w => XY w0.heap.size w1.heap.size w0.heap.size P (0 + n) (0 + k + (n - k)) (.slice X1 L.length d1) (.slice Y1 L.length d2) L L w ∧ w.ownsRow W.heap.size 23 1 (.slice p.1 (0 + m2) p.2) (0 + m2) ([] ++ hs2.map slV)) (fun _ _ _ h g => ⟨h.1.grow g, owned_grow h.2 g⟩), valJob (ownP w0.heap.size w1.heap.size W.heap.size) (.slice A3 m3 c3), clsJob (ownP w0.heap.size w1.heap.size W.heap.size) (Option Addr × Nat) (none, 0) (fun p => .slice p.1 (0 + m2 + m3) p.2) (fun p w => XY w0.heap.size w1.heap.size w0.heap.size P (0 + n) (0 + k + (n - k)) (.slice X1 L.length d1) (.slice Y1 L.length d2) L L w ∧ w.ownsRow W.heap.size 23 1 (.slice p.1 (0 + m2 + m3) p.2) (0 + m2 + m3) ([] ++ hs2.map slV ++ hs3.map slV)) (fun _ _ _ h g => ⟨h.1.grow g, owned_grow h.2 g⟩), rdJob (ownP w0.heap.size w1.heap.size W.heap.size) (.bool true), valJob (ownP w0.heap.size w1.heap.size W.heap.size) (.bool true), valJob (ownP w0.heap.size w1.heap.size W.heap.size) (.bool true), valJob (ownP w0.heap.size w1.heap.size W.heap.size) (.pointer (some ⟨w0.heap.size, 0, none⟩)), wrJob (ownP w0.heap.size w1.heap.size W.heap.size) (.slice X1 L.length d1) (XY w0.heap.size w1.heap.size w0.heap.size P (0 + n) (0 + k + (n - k)) (.slice none 0 0) (.slice Y1 L.length d2) [] L) (fun _ _ h g => h.grow g), valJob (ownP w0.heap.size w1.heap.size W.heap.size) (.string ⟨L.toArray⟩), valJob (ownP w0.heap.size w1.heap.size W.heap.size) (.pointer (some ⟨w1.heap.size, 0, none⟩)), wrJob (ownP w0.heap.size w1.heap.size W.heap.size) (.slice Y1 L.length d2) (XY w0.heap.size w1.heap.size w0.heap.size P (0 + n) (0 + k + (n - k)) (.slice none 0 0) (.slice none 0 0) [] []) (fun _ _ h g => h.grow g), valJob (ownP w0.heap.size w1.heap.size W.heap.size) (.string ⟨L.toArray⟩), valJob (ownP w0.heap.size w1.heap.size W.heap.size) (.bool true), valJob (ownP w0.heap.size w1.heap.size W.heap.size) (.bool true)] [(false, false), (false, false), (false, false), (true, true), (false, false), (true, true), (false, false), (true, true), (true, false), (false, false), (false, false), (false, false), (true, true), (false, false), (false, false), (true, true), (false, false), (false, false), (false, false)] (XY w0.heap.size w1.heap.size w0.heap.size P (0 + n) (0 + k + (n - k)) (.slice X1 L.length d1) (.slice Y1 L.length d2) L L) rfl mixed (by kernel_rfl) (fun _ _ => Spares.grows) (fun _ _ _ => Spares.trans) (spares_drew _ _) (HXY.out.grow (grows_drew _)) (fun _ _ h g => h.grow g) ?_
    simp only [List.take_succ_cons, List.take_zero, List.drop_succ_cons, List.drop_zero]
    refine j_val (.bool true) (by rfl) ?_ ?_
    · intro w' hC; clear hC; go_simp
    simp only [Act.put, List.setIfInBounds_toArray, List.set_cons_zero, List.set_cons_succ]
    refine j_val (.bool true) (by rfl) ?_ ?_
    · intro w' hC; clear hC; go_simp
    simp only [Act.put, List.setIfInBounds_toArray, List.set_cons_zero, List.set_cons_succ]
    refine j_val (.slice A1 m1 c1) (by rfl) ?_ ?_
    · intro w' hC; clear hC; go_simp
    simp only [Act.put, List.setIfInBounds_toArray, List.set_cons_zero, List.set_cons_succ]
    refine j_cls (by rfl) (fun w' hC hcls => ⟨w'.heap.size, w'.alloc (.cells #[] 23), by go_simp, Spares.grows (grows_alloc _ _), hcls.grow (grows_alloc _ _), World.ownsRow_lit w' #[] 0 hC.size (Nat.zero_le _) rfl⟩) ?_
    intro gb
    simp only [Act.put, List.setIfInBounds_toArray, List.set_cons_zero, List.set_cons_succ]
    refine j_val (.slice A2 m2 c2) (by rfl) ?_ ?_
    · intro w' hC; clear hC; go_simp
    simp only [Act.put, List.setIfInBounds_toArray, List.set_cons_zero, List.set_cons_succ]
    refine j_cls (by rfl) (fun w' hC hcls => ?_) ?_
    · obtain ⟨A', c', w'', hrun, ho, hg⟩ := run_append_rows (ty := 51) hcls.2 (HL2.out w' hC).row (HL2.out w' hC).bare HBND.out.1 hC.size
      exact ⟨(A', c'), w'', exec_append rfl rfl rfl hrun, own_grown hcls.2 (Nat.le_refl _) hg, hcls.1.row hcls.2 hg, ho⟩
    rintro ⟨A5, c5⟩
    dsimp only
    simp only [Act.put, List.setIfInBounds_toArray, List.set_cons_zero, List.set_cons_succ]
    refine j_val (.slice A3 m3 c3) (by rfl) ?_ ?_
    · intro w' hC; clear hC; go_simp
    simp only [Act.put, List.setIfInBounds_toArray, List.set_cons_zero, List.set_cons_succ]
    refine j_cls (by rfl) (fun w' hC hcls => ?_) ?_
    · obtain ⟨A', c', w'', hrun, ho, hg⟩ := run_append_rows (ty := 51) hcls.2 (HL3.out w' hC).row (HL3.out w' hC).bare HBND.out.2 hC.size
      exact ⟨(A', c'), w'', exec_append rfl rfl rfl hrun, own_grown hcls.2 (Nat.le_refl _) hg, hcls.1.row hcls.2 hg, ho⟩
    rintro ⟨A6, c6⟩
    dsimp only
    simp only [Act.put, List.setIfInBounds_toArray, List.set_cons_zero, List.set_cons_succ]
    refine j_rcall 37 #[.slice A1 m1 c1, .slice A6 (0 + m2 + m3) c6] (.bool true) (by rfl) (by intro w' hC; clear hC; go_simp) ?_ ?_
    · intro w' hC hcls; exact same_true (HL1.out w' hC).lists (lists_two (HL2.out w' hC) (HL3.out w' hC) hcls.2) HPS.out HBN1.out (by have := HBND.out.2; omega)
    simp only [Act.put, List.setIfInBounds_toArray, List.set_cons_zero, List.set_cons_succ]
    refine j_val (.bool true) (by rfl) ?_ ?_
    · intro w' hC; clear hC; go_simp
    simp only [Act.put, List.setIfInBounds_toArray, List.set_cons_zero, List.set_cons_succ]
    refine j_val (.bool true) (by rfl) ?_ ?_
    · intro w' hC; clear hC; go_simp
    simp only [Act.put, List.setIfInBounds_toArray, List.set_cons_zero, List.set_cons_succ]
    refine j_val (.pointer (some ⟨w0.heap.size, 0, none⟩)) (by rfl) ?_ ?_
    · intro w' hC; clear hC; go_simp
    simp only [Act.put, List.setIfInBounds_toArray, List.set_cons_zero, List.set_cons_succ]
    refine j_write 33 #[.pointer (some ⟨w0.heap.size, 0, none⟩)] (.slice X1 L.length d1) (by rfl) (by intro w' hC; clear hC; go_simp) ?_ ?_
    · intro w' hC hcls; exact (rest_cut w' (Nat.le_trans HBW.out hC.size) hcls.1.x).mono fun e w'' ⟨he, _, hx, hs⟩ => ⟨he, hs.wider (fun k _ h => .inl h), hx, hcls.1.y.besides hcls.1.x hcls.1.ne.symm hs, hcls.1.ne⟩
    simp only [Act.put, List.setIfInBounds_toArray, List.set_cons_zero, List.set_cons_succ]
    refine j_val (.string ⟨L.toArray⟩) (by rfl) ?_ ?_
    · intro w' hC; have hs := run_string (HX1.out w' hC); clear hC; go_simp
    simp only [Act.put, List.setIfInBounds_toArray, List.set_cons_zero, List.set_cons_succ]
    refine j_val (.pointer (some ⟨w1.heap.size, 0, none⟩)) (by rfl) ?_ ?_
    · intro w' hC; clear hC; go_simp
    simp only [Act.put, List.setIfInBounds_toArray, List.set_cons_zero, List.set_cons_succ]
    refine j_write 33 #[.pointer (some ⟨w1.heap.size, 0, none⟩)] (.slice Y1 L.length d2) (by rfl) (by intro w' hC; clear hC; go_simp) ?_ ?_
    · intro w' hC hcls; exact (rest_cut w' (Nat.le_trans HBW.out hC.size) hcls.y).mono fun e w'' ⟨he, _, hy, hs⟩ => ⟨he, hs.wider (fun k _ h => .inr (.inl h)), hcls.x.besides hcls.y hcls.ne hs, hy, hcls.ne⟩
    simp only [Act.put, List.setIfInBounds_toArray, List.set_cons_zero, List.set_cons_succ]
    refine j_val (.string ⟨L.toArray⟩) (by rfl) ?_ ?_
    · intro w' hC; have hs := run_string (HY1.out w' hC); clear hC; go_simp
    simp only [Act.put, List.setIfInBounds_toArray, List.set_cons_zero, List.set_cons_succ]
    refine j_val (.bool true) (by rfl) ?_ ?_
    · intro w' hC; clear hC; go_simp
    simp only [Act.put, List.setIfInBounds_toArray, List.set_cons_zero, List.set_cons_succ]
    refine j_val (.bool true) (by rfl) ?_ ?_
    · intro w' hC; clear hC; go_simp
    simp only [Act.put, List.setIfInBounds_toArray, List.set_cons_zero, List.set_cons_succ]
    refine wpJ_end ?_
    intro w9 hC hks hcls
    have HCw9 := Lib.hid hC
    have HLw9 := Lib.hid hcls
    clear hC hks hcls
    go_wp2_with (fail)
    go_ret
    exact ⟨rfl, Below.trans HB5.out.2 (HCw9.out.below HB5.out.2.size (fun j hj e => by
      have h1 := HN.out.2.2
      have h2 := H1.out.2.size
      have h3 := HBW.out
      rcases e with e | e | e
      · omega
      · omega
      · omega))⟩

set_option maxRecDepth 100000 in
theorem cutParted_lifted (os : Os) (started : os.Started) (H : Type) (enc : TypeId × Value → H) :
    ReturnsInHanded {} Try.checked os 7 .any (Rows.cutPartedSpec.pre6 enc Try.prog Try.f7 Rows.cutPartedRow.domain false) (Rows.cutPartedSpec.post enc Try.prog Try.f7 false true false false) := by
  refine lift_law (C := Try.checked) H enc own started (by kernel_rfl) Try.func7
    (ChangeSpec.witness6 (enc := enc) (C := Try.checked) false ⟨#[], #[.int .u8 0, .slice none 0 0, .int .u16 0], []⟩ 16 (by kernel_rfl) (by kernel_rfl) (by kernel_rfl) (by kernel_rfl))
    laidOut (of_readable (by kernel_rfl)) rfl Try.underlying4 rfl (fun ds hd => ?_) (fun W base args ds p hval hA hsz => ?_)
  · match ds, hd with
    | [d1, d2, d3], _ => rfl
  · rw [Try.params7] at hA hval hsz
    obtain ⟨v0, vs0, d0, ds0, p0, q0, hargs, rfl, rfl, h0, r0⟩ := trodAll_cons hA
    obtain ⟨v1, vs1, d1, ds1, p1, q1, rfl, rfl, rfl, h1, r1⟩ := trodAll_cons r0
    obtain ⟨v2, vs2, d2, ds2, p2, q2, rfl, rfl, rfl, h2, r2⟩ := trodAll_cons r1
    obtain ⟨rfl, rfl, rfl⟩ := trodAll_nil r2
    obtain rfl : args = #[v0, v1, v2] := by cases args; simp_all
    obtain ⟨a0, rfl, _, _, w0⟩ := open_int Try.underlying5 (hval 0 5 v0 rfl rfl) h0
    have b0 := bounds_u8 w0
    obtain ⟨A1, n1, c1, xs1, rfl, hx1⟩ := open_bytes Try.underlying23 Try.underlying5 (by kernel_rfl) (by kernel_rfl) (hval 1 23 v1 rfl rfl) h1 hsz (j := 1) rfl rfl
    obtain ⟨a2, rfl, _, _, w2⟩ := open_int Try.underlying56 (hval 2 56 v2 rfl rfl) h2
    have b2 := bounds_u16 w2
    exact cutParted_law W a0 (by omega) A1 n1 c1 xs1 hx1 a2 (by omega)

theorem cutParted_over : Rows.cutPartedRow.holds Try.pinned (OpenSpec.ofChange Rows.cutPartedSpec) :=
  OpenClaim.holds_of_wide 7 Try.f7 rfl rfl rfl rfl rfl rfl rfl ⟨rfl, rfl, rfl, rfl, rfl⟩ rfl rfl rfl rfl rfl (by kernel_rfl) Try.func7 (by kernel_rfl)
    (of_decide_eq_true (by kernel_rfl)) (by unfold Func.isWrapper; first | (rw [if_pos (by decide +kernel)]; kernel_rfl) | (rw [if_neg (by decide +kernel)]; exact ⟨rfl, rfl⟩))
    (fun os started H enc _ => cutParted_lifted os started H enc)
theorem cutParted_holds : Rows.CutPartedSaid := cutParted_over
end Go.Proofs.Ytlcpbkbojjpfaaa
