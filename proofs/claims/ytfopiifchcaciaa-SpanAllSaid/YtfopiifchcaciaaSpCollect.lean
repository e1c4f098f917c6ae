/-
  slices.AppendSeq and slices.Collect at api.Part.
-/
import Derived.Test.YtfopiifchcaciaaSpRows
namespace Go.Proofs.Ytfopiifchcaciaa
open Go.RowKit Go.Shelf
set_option linter.unusedVariables false
set_option linter.unusedSimpArgs false
attribute [local go_sem] Oper.semAt_some

theorem GivesR.later {α : Type} {P : Program} {n g : Nat} {lb : Array Value} {encs : α → Array Value} {Gd : List α → α → Prop} {Dead : Nat → Prop} {S : List α → Prop} {w w' : World} (h : GivesR P n g lb encs Gd Dead S w) (hg : Grows w w') : GivesR P n g lb encs Gd Dead S w' :=
  fun l J Jx W R0 hW => h l J Jx W R0 (Grows.trans hg hW)

/-- What AppendSeq has between two rounds. -/
structure AppHas (w : World) (pre : List Pt) (R : Nat → Prop) (W : World) : Prop where
  list : ∃ A c, Boxed W w.heap.size 33 (.slice A pre.length c) ∧ W.ownsRow (w.heap.size + 1) 40 3 (.slice A pre.length c) pre.length (ptC pre) ∧ ∀ k, R k ↔ k = w.heap.size ∨ (Value.slice A pre.length c).ownBlock = some k
  few : pre.length ≤ 512
  low : Below w.heap.size w W
theorem AppHas.lt {w : World} {pre : List Pt} {R : Nat → Prop} {W : World} (h : AppHas w pre R W) : ∀ k, R k → w.heap.size ≤ k ∧ k < W.heap.size := by
  obtain ⟨⟨A, c, h1, h2, h3⟩, _, _⟩ := h
  intro k hk
  rcases (h3 k).1 hk with rfl | hk
  · exact ⟨Nat.le_refl _, h1.lt⟩
  · have := owned_lt3 h2 hk; omega
theorem AppHas.keep {w : World} {N : Nat} {pre : List Pt} {R : Nat → Prop} {W W' : World} (h : AppHas w pre R W) (hN : w.heap.size ≤ N) (hs : OffR N R W W') : AppHas w pre R W' := by
  obtain ⟨⟨A, c, h1, h2, h3⟩, h4, h5⟩ := h
  refine ⟨⟨A, c, (Spares.same hs _ h1.lt fun h => h.2 ((h3 _).2 (.inl rfl))).trans h1, owned_same3 h2 fun k hk => Spares.same hs k (owned_lt3 h2 hk).2 fun h => h.2 ((h3 k).2 (.inr hk)), h3⟩, h4, Below.trans h5 ?_⟩
  exact ⟨hs.os, hs.tape, hs.output, hs.size, fun k hk => Spares.same hs k (Nat.lt_of_lt_of_le hk h5.size) fun h => by omega⟩

set_option maxRecDepth 100000 in
set_option maxHeartbeats 4000000 in
theorem appendseq_any (g : Nat) (lb : Array Value) (Dead : Nat → Prop) (PS : List Pt) (w : World) (hseq : ∀ n, GivesR Try.prog n g lb (fun p : Pt => #[partV p]) (fun pre _ => pre.length < 512) Dead (fun ps => ps = PS) w) (hdead : ∀ k, Dead k → k < w.heap.size)
    (eg : ∀ args w, (callFunc g args).run Try.prog w = .ok (.enter g args) w) :
    Calls Try.prog 37 #[.slice none 0 0, .func (.func g) #[] lb] w fun e w' => ∃ A c, e = .returned (.slice A PS.length c) ∧ w'.ownsRow w.heap.size 40 3 (.slice A PS.length c) PS.length (ptC PS) ∧ Below w.heap.size w w' := by
  obtain ⟨W1, hW1⟩ : ∃ W1, w.alloc (.cells #[.slice none 0 0] 33) = W1 := ⟨_, rfl⟩
  have g1 : Grows w W1 := hW1 ▸ grows_alloc _ _
  have s1 : W1.heap.size = w.heap.size + 1 := by rw [← hW1, World.size_alloc]
  have b1 : Boxed W1 w.heap.size 33 (.slice none 0 0) := by rw [← hW1]; exact Boxed.new _ _ _
  have h0 : AppHas w [] (fun k => k = w.heap.size) W1 := ⟨⟨none, 0, b1, World.ownsRow_nil _ _ _ _, fun k => ⟨.inl, fun h => h.elim id fun h => by cases h⟩⟩, Nat.zero_le _, g1⟩
  have H0 := Lib.hid h0
  have HG := Lib.hid (fun n => (hseq n).later g1)
  have HD := Lib.hid hdead
  have S1 := Lib.hid s1
  clear h0 b1 g1 hseq hdead s1
  refine (callsIn_wide (n := 3)).1 ?_
  refine callsIn_of_wp_marks Try.func37 rfl trivial ?_ rfl
  simp only [Try.ntmps37, List.size_toArray, List.length_cons, List.length_nil, Nat.reduceAdd, Nat.reduceSub, Array.replicate_succ, Array.replicate_zero, List.push_toArray, List.append_toArray, List.nil_append, List.cons_append]
  gi_wp2_with (first | rw [hW1] | fail)
  refine range_lawR (gf := g) (lb := lb) rfl eg (HG.out 2) (fun _ => rfl) (fun k => k = w.heap.size) ?dead (AppHas w) (fun _ _ _ => False) (fun s R A' h k hk => (h.lt k hk).2)
    (fun s R A' B' h hs => h.keep (by rw [S1.out]; omega) hs) (fun _ _ _ _ h _ => h) H0.out ?round ?done (fun _ _ _ _ _ _ h _ => h.elim)
  case dead => exact fun k hk => ⟨by have := HD.out k hk; rw [S1.out]; omega, fun e => by have := HD.out k hk; omega⟩
  case round =>
    rintro l pre R ⟨pi, pf, pt⟩ W hsz hi hgd
    dsimp only [partV]
    gi_wp2_with (fail)
    obtain ⟨Wa, hWa⟩ : ∃ Wa, W.alloc (.cells #[.int .i64 pi, .int .i64 pf, .int .i64 pt] 40) = Wa := ⟨_, rfl⟩
    rw [hWa]
    have ga : Grows W Wa := hWa ▸ grows_alloc _ _
    have sa : Wa.heap.size = W.heap.size + 1 := by rw [← hWa, World.size_alloc]
    have hv : Whole Wa W.heap.size 40 #[.int .i64 pi, .int .i64 pf, .int .i64 pt] := by rw [← hWa]; exact Whole.made _ _ _
    refine ⟨ga, fun Wb hsp hib => ?_⟩
    obtain ⟨⟨A, c, hb, ho, hR⟩, hle, hlow⟩ := hib
    have hlt := hi.lt
    have hvb : Whole Wb W.heap.size 40 #[.int .i64 pi, .int .i64 pf, .int .i64 pt] := (hsp.same _ hv.lt (by omega)).trans hv
    have c1 := hb.cell
    have e0 := hvb.cell 0
    have e1 := hvb.cell 1
    have e2 := hvb.cell 2
    simp only [List.getElem?_toArray, List.getElem?_cons_zero, List.getElem?_cons_succ] at e0 e1 e2
    obtain ⟨i0, hi0, hz0, hz1, hz2⟩ := info_parts infoPart
    have HI := Lib.hid (And.intro hi0 (And.intro hz0 (And.intro hz1 hz2)))
    have HB := Lib.hid (And.intro hb (And.intro ho (And.intro hR (And.intro hlow (And.intro hlt (And.intro sa (And.intro hsz hsp.size)))))))
    have HGD := Lib.hid hgd
    clear hb ho hR hle hlow hv hvb hi0 hz0 hz1 hz2 hi ga hlt hsz sa hsp hgd
    gi_wp2_with (first
      | (gi_at_builtin
         refine listIn_append_at rfl (.tmp 8) (.tmp 10) 33 rfl (w.heap.size + 1) 40 i0 (.agg #[.int .i64 0, .int .i64 0, .int .i64 0]) 3 24 Try.underlying33 HI.out.1 HI.out.2.1 HI.out.2.2.1 HI.out.2.2.2 rfl (by decide) (.slice A pre.length c) pre.length (ptC pre) rfl
           (owned_grow HB.out.2.1 (grows_alloc _ _)) ⟨Wb.heap.size, 0, none⟩ 1 1 (ptV (pi, pf, pt)) rfl rfl (ptV_at (Whole.made Wb _ _)) (ptV_one _) (by unfold maxLen; have := HGD.out; omega) (by have := HGD.out; omega) (by rw [World.size_alloc]; have := HB.out.2.2.2.1.size; have := HB.out.1.lt; omega) ?_
         intro A1 cap1 w1 hown1 hgrow1 hdj
         have y4 : Boxed w1 w.heap.size 33 (.slice A pre.length c) := (hgrow1.block _ (by rw [World.size_alloc]; have := HB.out.1.lt; omega) (fun e => by have := owned_lt3 HB.out.2.1 e.symm; omega)).trans ((grows_alloc _ _).block _ HB.out.1.lt |>.trans HB.out.1)
         have z4 := y4.cell
         have z5 := y4.frozen
         have HY4 := Lib.hid y4
         have HOWN1 := Lib.hid (And.intro hown1 (And.intro hgrow1 hdj))
         clear y4 hown1 hgrow1 hdj)
      | fail)
    obtain ⟨hb, ho, hR, hlow, hlt, sa, hsz, hspz⟩ := HB.out
    obtain ⟨hown1, hgrow1, hdj⟩ := HOWN1.out
    obtain ⟨Y, hY⟩ : ∃ Y, w1.setCell ⟨w.heap.size, 0, none⟩ (.slice A1 (pre.length + 1) cap1) = Y := ⟨_, rfl⟩
    rw [hY]
    have hsY : Y.heap.size = w1.heap.size := by rw [← hY]; simp [World.setCell]
    have hsw : Wb.heap.size + 1 ≤ w1.heap.size := by have := hgrow1.size; rwa [World.size_alloc] at this
    have hR0 : R w.heap.size := (hR _).2 (.inl rfl)
    have hsY2 : Spares (fun k => R k ∨ W.heap.size ≤ k) Wb Y := by
      rw [← hY]
      exact ((Spares.grows (grows_alloc _ _)).grown hgrow1 (fun k hk => .inl ((hR k).2 (.inr hk)))).setCell (.inl hR0) _
    have hsub : ∀ k, (k = w.heap.size ∨ (Value.slice A1 (pre.length + 1) cap1).ownBlock = some k) → R k ∨ W.heap.size ≤ k := fun k hk => by
      rcases hk with rfl | hk
      · exact .inl hR0
      · rcases hdj with h | h
        · exact .inl ((hR k).2 (.inr (h ▸ hk)))
        · rw [h, World.size_alloc] at hk
          injection hk with hk
          right; omega
    refine ⟨fun k => k = w.heap.size ∨ (Value.slice A1 (pre.length + 1) cap1).ownBlock = some k, hsub, hsY2, ⟨A1, cap1, ?_, ?_, ?_⟩, ?_, ?_⟩
    · rw [List.length_append, List.length_singleton, ← hY]
      exact Whole.put (show Whole w1 w.heap.size _ #[_] from HY4.out) 0 _
    · rw [List.length_append, List.length_singleton, ptC_snoc, ← hY]
      refine owned_same3 hown1 fun k hk => Below.heap_setCell _ _ _ _ ?_
      have := (owned_lt3 hown1 hk).1
      dsimp only
      omega
    · intro k
      rw [List.length_append, List.length_singleton]
    · rw [List.length_append, List.length_singleton]
      have := HGD.out
      omega
    · exact ⟨hsY2.os.trans hlow.os, hsY2.tape.trans hlow.tape, hsY2.output.trans hlow.output, Nat.le_trans hlow.size hsY2.size, fun k hk => (hsY2.same k (Nat.lt_of_lt_of_le hk hlow.size) fun h => h.elim (fun h => by have := (hlt k h).1; omega) fun h => by have := (hlt _ hR0).2; omega).trans (hlow.block k hk)⟩
  case done =>
    intro D xs R W hD hnD hS hi hK
    subst hS
    obtain ⟨⟨A, c, hb, ho, hR⟩, hle, hlow⟩ := hi
    have c1 := hb.cell
    have HA := Lib.hid (And.intro ho (And.intro hR (And.intro hlow (And.intro hK (And.intro hD hnD)))))
    clear hb ho hR hle hlow hK hD hnD
    gi_wp2_with (fail)
    obtain ⟨ho, hR, hlow, hK, hD, hnD⟩ := HA.out
    have hDs : Spares (fun k => k = D) W (W.putObj D (.deferred none)) := ⟨rfl, rfl, rfl, by simp, fun k _ hk => World.putObj_heap_other hk⟩
    refine ⟨by simp, .inl ⟨_, _, rfl, run_takeDeferred hK, ?_⟩⟩
    refine ⟨.slice A xs.length c, by simp [results, Try.results37, go_sem], A, c, rfl, owned_from (owned_same3 ho fun k hk => hDs.same k (owned_lt3 ho hk).2 fun e => hnD ((hR D).2 (.inr (e ▸ hk)))) (by omega), ?_⟩
    exact ⟨hlow.os, hlow.tape, hlow.output, Nat.le_trans hlow.size hDs.size, fun k hk => (hDs.same k (Nat.lt_of_lt_of_le hk hlow.size) fun e => by have := S1.out; omega).trans (hlow.block k hk)⟩

theorem collect_any (g : Nat) (lb : Array Value) (Dead : Nat → Prop) (PS : List Pt) (w : World) (hseq : ∀ n, GivesR Try.prog n g lb (fun p : Pt => #[partV p]) (fun pre _ => pre.length < 512) Dead (fun ps => ps = PS) w) (hdead : ∀ k, Dead k → k < w.heap.size)
    (eg : ∀ args w, (callFunc g args).run Try.prog w = .ok (.enter g args) w) :
    Calls Try.prog 31 #[.func (.func g) #[] lb] w fun e w' => ∃ A c, e = .returned (.slice A PS.length c) ∧ w'.ownsRow w.heap.size 40 3 (.slice A PS.length c) PS.length (ptC PS) ∧ Below w.heap.size w w' := by
  have HA := Lib.hid (appendseq_any g lb Dead PS w hseq hdead eg)
  clear hseq hdead
  go_enter Try.func31, Try.ntmps31
  go_wp2_with (fail)
  refine HA.out.mono ?_
  rintro e w' ⟨A, c, rfl, h1, h2⟩
  have H1 := Lib.hid (And.intro h1 h2)
  clear h1 h2
  go_wp2_with (fail)
  go_ret
  exact ⟨A, c, rfl, H1.out.1, H1.out.2⟩

set_option maxRecDepth 100000 in
set_option maxHeartbeats 4000000 in
/-- Parts. -/
theorem parts_of (A : Option Addr) (n c : Nat) (xs : List Int) (off k : Int) (w : World) (hx : Ints w A n c xs) (ho : -9223372036854775808 ≤ off ∧ off ≤ 9223372036854775807) (hk : -9223372036854775808 ≤ k ∧ k ≤ 9223372036854775807) :
    Calls Try.prog 21 #[.slice A n c, .int .i64 off, .int .i64 k] w fun e w' => ∃ A' c', e = .returned (.slice A' (allP xs off k).length c') ∧ w'.ownsRow w.heap.size 40 3 (.slice A' (allP xs off k).length c') (allP xs off k).length (ptC (allP xs off k)) ∧ Below w.heap.size w w' := by
  have HX := Lib.hid hx
  have HB := Lib.hid (And.intro ho hk)
  obtain ⟨PS, hPS⟩ : ∃ PS, allP xs off k = PS := ⟨_, rfl⟩
  rw [hPS]
  have HP := Lib.hid hPS
  clear hx ho hk hPS
  go_enter Try.func21, Try.ntmps21
  go_wp2_with (fail)
  refine (right_any A n c xs w HX.out).mono ?_
  rintro e w1 ⟨rfl, rfl⟩
  cases hr : rightP xs with
  | false =>
    have HF := Lib.hid (show PS = [] by rw [← HP.out]; unfold allP; rw [if_neg (by rw [hr]; simp)])
    clear hr
    go_wp2_with (fail)
    go_ret
    obtain rfl := HF.out
    exact ⟨none, 0, rfl, World.ownsRow_nil _ _ _ _, Below.refl _ _⟩
  | true =>
    have HR := Lib.hid hr
    clear hr
    go_wp2_with (fail)
    refine (size_any A n c xs w HX.out).mono ?_
    rintro e w1 ⟨rfl, rfl⟩
    have HZ := Lib.hid (sizeP_bound xs)
    obtain ⟨z, hz⟩ : ∃ z, sizeP xs = z := ⟨_, rfl⟩
    have HZ2 := Lib.hid hz
    rw [hz]
    clear hz
    go_wp2_with (fail)
    refine (clip_any z off k w (by have := HZ.out; have := HZ2.out; omega) HB.out.1 HB.out.2).mono ?_
    rintro e w1 ⟨rfl, rfl⟩
    obtain ⟨⟨fr, to, is⟩, hcl⟩ : ∃ t, clipP z off k = t := ⟨_, rfl⟩
    have HCL := Lib.hid hcl
    rw [hcl]
    clear hcl
    dsimp only
    cases is with
    | false =>
      have HF := Lib.hid (show PS = [] by rw [← HP.out]; unfold allP; rw [HZ2.out, HCL.out]; rw [if_neg (by simp)])
      go_wp2_with (fail)
      go_ret
      obtain rfl := HF.out
      exact ⟨none, 0, rfl, World.ownsRow_nil _ _ _ _, Below.refl _ _⟩
    | true =>
      have HPS := Lib.hid (show PS = partsP fr to 0 0 xs by rw [← HP.out]; unfold allP; rw [HZ2.out, HCL.out]; rw [if_pos ⟨HR.out, rfl⟩])
      have hbd : (0 ≤ fr ∧ fr ≤ 1073741824) ∧ 0 ≤ to ∧ to ≤ 1073741824 := by
        have h := HCL.out
        have hzb := HZ.out
        rw [HZ2.out] at hzb
        unfold clipP at h
        split at h
        · injection h with _ h; injection h with _ h; cases h
        · injection h with h1 h
          injection h with h2 _
          rw [← h1, ← h2]
          split <;> omega
      have HBD := Lib.hid hbd
      clear hbd
      go_wp2_with (fail)
      refine (parts_any A n c fr to w).mono ?_
      rintro e w1 ⟨rfl, hw1⟩
      have ha := Boxed.new w 28 (.slice A n c)
      have hb := Boxed.new (w.alloc (.cells #[.slice A n c] 28)) 3 (.int .i64 fr)
      have hc := Boxed.new ((w.alloc (.cells #[.slice A n c] 28)).alloc (.cells #[.int .i64 fr] 3)) 3 (.int .i64 to)
      simp only [World.size_alloc] at hb hc
      have ga := grows_alloc w (.cells #[.slice A n c] 28)
      have gb := grows_alloc (w.alloc (.cells #[.slice A n c] 28)) (.cells #[.int .i64 fr] 3)
      have gc := grows_alloc ((w.alloc (.cells #[.slice A n c] 28)).alloc (.cells #[.int .i64 fr] 3)) (.cells #[.int .i64 to] 3)
      have up : ∀ {W W' : World} {k : Nat} {o : Obj}, W.heap[k]? = some o → Grows W W' → W'.heap[k]? = some o := fun h hg => (hg.block _ (Array.getElem?_eq_some_iff.1 h).1).trans h
      rw [hw1] at hc gc
      have h1 : Boxed w1 w.heap.size 28 (.slice A n c) := up ha (Grows.trans gb gc)
      have h2 : Boxed w1 (w.heap.size + 1) 3 (.int .i64 fr) := up hb gc
      have h3 : Boxed w1 (w.heap.size + 1 + 1) 3 (.int .i64 to) := hc
      have hg : Grows w w1 := Grows.trans ga (Grows.trans gb gc)
      have hxw := HX.out.grow hg
      have hcol := collect_any 38 #[.pointer (some ⟨w.heap.size, 0, none⟩), .pointer (some ⟨w.heap.size + 1, 0, none⟩), .pointer (some ⟨w.heap.size + 1 + 1, 0, none⟩)] _ PS w1
        (fun n => by rw [HPS.out]; exact parts_gives n _ _ _ A _ c xs fr to w1 h1 h2 h3 hxw HR.out HBD.out.1 HBD.out.2)
        (by
          rintro k (rfl | rfl | rfl | h)
          · exact h1.lt
          · exact h2.lt
          · exact h3.lt
          · exact hxw.lies k h)
        (enters_of Try.func38 (by kernel_rfl) rfl)
      have HCO := Lib.hid (And.intro hcol hg)
      clear ha hb hc ga gb gc up h1 h2 h3 hg hxw hcol hw1
      go_wp2_with (fail)
      refine HCO.out.1.mono ?_
      rintro e w2 ⟨A2, c2, rfl, ho2, hb2⟩
      have H2 := Lib.hid (And.intro ho2 hb2)
      clear ho2 hb2
      go_wp2_with (fail)
      go_ret
      exact ⟨A2, c2, rfl, owned_from H2.out.1 HCO.out.2.size, Grows.trans HCO.out.2 H2.out.2⟩
end Go.Proofs.Ytfopiifchcaciaa
