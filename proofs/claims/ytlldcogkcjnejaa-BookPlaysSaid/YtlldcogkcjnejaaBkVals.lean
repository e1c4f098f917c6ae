/-
  slices.AppendSeq and slices.Collect at api.Use; maps.Values of a map of uses.
-/
import Derived.Test.YtlldcogkcjnejaaBkSort
import Derived.Test.YtlldcogkcjnejaaRangeR
import Derived.Sort.MapsRangeIn
import Derived.OwnWalkIn
import Derived.TacticsInMore
import Derived.LoopNIn
import Derived.LoopIn
namespace Go.Proofs.Ytlldcogkcjnejaa
open Go.RowKit Go.Shelf Go.Maps Go.Sort
set_option linter.unusedVariables false
set_option linter.unusedSimpArgs false
attribute [local go_sem] Oper.semAt_some

theorem GivesR.laterU {α : Type} {P : Program} {n g : Nat} {lb : Array Value} {encs : α → Array Value} {Gd : List α → α → Prop} {Dead : Nat → Prop} {S : List α → Prop} {w w' : World} (h : GivesR P n g lb encs Gd Dead S w) (hg : Grows w w') : GivesR P n g lb encs Gd Dead S w' :=
  fun l J Jx W R0 hW => h l J Jx W R0 (Grows.trans hg hW)

/-- What AppendSeq has between two rounds. -/
structure AppUs (w : World) (pre : List Us) (R : Nat → Prop) (W : World) : Prop where
  list : ∃ A c, Boxed W w.heap.size 40 (.slice A pre.length c) ∧ W.ownsRow (w.heap.size + 1) 34 3 (.slice A pre.length c) pre.length (pre.flatMap usE) ∧ ∀ k, R k ↔ k = w.heap.size ∨ (Value.slice A pre.length c).ownBlock = some k
  few : 0 ≤ pre.length
  low : Below w.heap.size w W
theorem AppUs.lt {w : World} {pre : List Us} {R : Nat → Prop} {W : World} (h : AppUs w pre R W) : ∀ k, R k → w.heap.size ≤ k ∧ k < W.heap.size := by
  obtain ⟨⟨A, c, h1, h2, h3⟩, _, _⟩ := h
  intro k hk
  rcases (h3 k).1 hk with rfl | hk
  · exact ⟨Nat.le_refl _, h1.lt⟩
  · have := owned_lt3 h2 hk; omega
theorem AppUs.keep {w : World} {N : Nat} {pre : List Us} {R : Nat → Prop} {W W' : World} (h : AppUs w pre R W) (hN : w.heap.size ≤ N) (hs : OffR N R W W') : AppUs w pre R W' := by
  obtain ⟨⟨A, c, h1, h2, h3⟩, h4, h5⟩ := h
  refine ⟨⟨A, c, (Spares.same hs _ h1.lt fun h => h.2 ((h3 _).2 (.inl rfl))).trans h1, owned_same3 h2 fun k hk => Spares.same hs k (owned_lt3 h2 hk).2 fun h => h.2 ((h3 k).2 (.inr hk)), h3⟩, h4, Below.trans h5 ?_⟩
  exact ⟨hs.os, hs.tape, hs.output, hs.size, fun k hk => Spares.same hs k (Nat.lt_of_lt_of_le hk h5.size) fun h => by omega⟩

set_option maxRecDepth 100000 in
set_option maxHeartbeats 4000000 in
theorem appendseq_us (g : Nat) (lb : Array Value) (Dead : Nat → Prop) (K : Nat) (hK1 : K ≤ 1000000) (S : List Us → Prop) (w : World) (hseq : ∀ n, GivesR Try.prog n g lb (fun p : Us => #[usV p]) (fun pre _ => pre.length < K) Dead S w) (hdead : ∀ k, Dead k → k < w.heap.size)
    (eg : ∀ args w, (callFunc g args).run Try.prog w = .ok (.enter g args) w) :
    Calls Try.prog 44 #[.slice none 0 0, .func (.func g) #[] lb] w fun e w' => ∃ A c xs, S xs ∧ e = .returned (.slice A xs.length c) ∧ w'.ownsRow w.heap.size 34 3 (.slice A xs.length c) xs.length (xs.flatMap usE) ∧ Below w.heap.size w w' := by
  obtain ⟨W1, hW1⟩ : ∃ W1, w.alloc (.cells #[.slice none 0 0] 40) = W1 := ⟨_, rfl⟩
  have g1 : Grows w W1 := hW1 ▸ grows_alloc _ _
  have s1 : W1.heap.size = w.heap.size + 1 := by rw [← hW1, World.size_alloc]
  have b1 : Boxed W1 w.heap.size 40 (.slice none 0 0) := by rw [← hW1]; exact Boxed.new _ _ _
  have h0 : AppUs w [] (fun k => k = w.heap.size) W1 := ⟨⟨none, 0, b1, World.ownsRow_nil _ _ _ _, fun k => ⟨.inl, fun h => h.elim id fun h => by cases h⟩⟩, Nat.zero_le _, g1⟩
  have H0 := Lib.hid h0
  have HG := Lib.hid (fun n => (hseq n).laterU g1)
  have HD := Lib.hid hdead
  have S1 := Lib.hid s1
  clear h0 b1 g1 hseq hdead s1
  refine (callsIn_wide (n := 3)).1 ?_
  refine callsIn_of_wp_marks Try.func44 rfl trivial ?_ rfl
  simp only [Try.ntmps44, List.size_toArray, List.length_cons, List.length_nil, Nat.reduceAdd, Nat.reduceSub, Array.replicate_succ, Array.replicate_zero, List.push_toArray, List.append_toArray, List.nil_append, List.cons_append]
  gi_wp2_with (first | rw [hW1] | fail)
  refine range_lawR (gf := g) (lb := lb) rfl eg (HG.out 2) (fun _ => rfl) (fun k => k = w.heap.size) ?dead (AppUs w) (fun _ _ _ => False) (fun s R A' h k hk => (h.lt k hk).2)
    (fun s R A' B' h hs => h.keep (by rw [S1.out]; omega) hs) (fun _ _ _ _ h _ => h) H0.out ?round ?done (fun _ _ _ _ _ _ h _ => h.elim)
  case dead => exact fun k hk => ⟨by have := HD.out k hk; rw [S1.out]; omega, fun e => by have := HD.out k hk; omega⟩
  case round =>
    rintro l pre R ⟨pk, pa, pz⟩ W hsz hi hgd
    dsimp only [usV]
    gi_wp2_with (fail)
    obtain ⟨Wa, hWa⟩ : ∃ Wa, W.alloc (.cells #[.int .i64 pk, .int .i64 pa, .int .i64 pz] 34) = Wa := ⟨_, rfl⟩
    rw [hWa]
    have ga : Grows W Wa := hWa ▸ grows_alloc _ _
    have sa : Wa.heap.size = W.heap.size + 1 := by rw [← hWa, World.size_alloc]
    have hv : Whole Wa W.heap.size 34 #[.int .i64 pk, .int .i64 pa, .int .i64 pz] := by rw [← hWa]; exact Whole.made _ _ _
    refine ⟨ga, fun Wb hsp hib => ?_⟩
    obtain ⟨⟨A, c, hb, ho, hR⟩, hle, hlow⟩ := hib
    have hlt := hi.lt
    have hvb : Whole Wb W.heap.size 34 #[.int .i64 pk, .int .i64 pa, .int .i64 pz] := (hsp.same _ hv.lt (by omega)).trans hv
    have c1 := hb.cell
    have e0 := hvb.cell 0
    have e1 := hvb.cell 1
    have e2 := hvb.cell 2
    simp only [List.getElem?_toArray, List.getElem?_cons_zero, List.getElem?_cons_succ] at e0 e1 e2
    obtain ⟨i0, hi0, hz0, hz1, hz2⟩ := info_of infoUs
    have HI := Lib.hid (And.intro hi0 (And.intro hz0 (And.intro hz1 hz2)))
    have HB := Lib.hid (And.intro hb (And.intro ho (And.intro hR (And.intro hlow (And.intro hlt (And.intro sa (And.intro hsz hsp.size)))))))
    have HGD := Lib.hid hgd
    clear hb ho hR hle hlow hv hvb hi0 hz0 hz1 hz2 hi ga hlt hsz sa hsp hgd
    gi_wp2_with (first
      | (gi_at_builtin
         refine listIn_append_at rfl (.tmp 8) (.tmp 10) 40 rfl (w.heap.size + 1) 34 i0 (.agg #[.int .i64 0, .int .i64 0, .int .i64 0]) 3 24 Try.underlying40 HI.out.1 HI.out.2.1 HI.out.2.2.1 HI.out.2.2.2 rfl (by decide) (.slice A pre.length c) pre.length (pre.flatMap usE) rfl
           (owned_grow HB.out.2.1 (grows_alloc _ _)) ⟨Wb.heap.size, 0, none⟩ 1 1 (usE ⟨pk, pa, pz⟩) rfl rfl (us_at (x := ⟨pk, pa, pz⟩) (Whole.made Wb _ _)) (usE_one _) (by unfold maxLen; have := HGD.out; omega) (by have := HGD.out; omega) (by rw [World.size_alloc]; have := HB.out.2.2.2.1.size; have := HB.out.1.lt; omega) ?_
         intro A1 cap1 w1 hown1 hgrow1 hdj
         have y4 : Boxed w1 w.heap.size 40 (.slice A pre.length c) := (hgrow1.block _ (by rw [World.size_alloc]; have := HB.out.1.lt; omega) (fun e => by have := owned_lt3 HB.out.2.1 e.symm; omega)).trans ((grows_alloc _ _).block _ HB.out.1.lt |>.trans HB.out.1)
         have z4 := y4.cell
         have z5 := y4.frozen
         have HY4 := Lib.hid y4
         have HOWN1 := Lib.hid (And.intro hown1 (And.intro hgrow1 hdj))
         clear y4 hown1 hgrow1 hdj)
      | fail)
    obtain ⟨hb, ho, hR, hlow, hlt, sa, hsz, hspz⟩ := HB.out
    obtain ⟨hown1, hgrow1, hdj⟩ := HOWN1.out
    obtain ⟨Y, hY⟩ : ∃ Y, w1.setCell ⟨w.heap.size, 0, none⟩ (.slice A1 (pre.length + 1) cap1) = Y := ⟨_, rfl⟩
    rw [hY]
    have hsY : Y.heap.size = w1.heap.size := by rw [← hY]; simp [World.setCell]
    have hsw : Wb.heap.size + 1 ≤ w1.heap.size := by have := hgrow1.size; rwa [World.size_alloc] at this
    have hR0 : R w.heap.size := (hR _).2 (.inl rfl)
    have hsY2 : Spares (fun k => R k ∨ W.heap.size ≤ k) Wb Y := by
      rw [← hY]
      exact ((Spares.grows (grows_alloc _ _)).grown hgrow1 (fun k hk => .inl ((hR k).2 (.inr hk)))).setCell (.inl hR0) _
    have hsub : ∀ k, (k = w.heap.size ∨ (Value.slice A1 (pre.length + 1) cap1).ownBlock = some k) → R k ∨ W.heap.size ≤ k := fun k hk => by
      rcases hk with rfl | hk
      · exact .inl hR0
      · rcases hdj with h | h
        · exact .inl ((hR k).2 (.inr (h ▸ hk)))
        · rw [h, World.size_alloc] at hk
          injection hk with hk
          right; omega
    refine ⟨fun k => k = w.heap.size ∨ (Value.slice A1 (pre.length + 1) cap1).ownBlock = some k, hsub, hsY2, ⟨A1, cap1, ?_, ?_, ?_⟩, ?_, ?_⟩
    · rw [List.length_append, List.length_singleton, ← hY]
      exact Whole.put (show Whole w1 w.heap.size _ #[_] from HY4.out) 0 _
    · rw [List.length_append, List.length_singleton, flat_snoc, ← hY]
      refine owned_same3 hown1 fun k hk => Below.heap_setCell _ _ _ _ ?_
      have := (owned_lt3 hown1 hk).1
      dsimp only
      omega
    · intro k
      rw [List.length_append, List.length_singleton]
    · rw [List.length_append, List.length_singleton]
      have := HGD.out
      omega
    · exact ⟨hsY2.os.trans hlow.os, hsY2.tape.trans hlow.tape, hsY2.output.trans hlow.output, Nat.le_trans hlow.size hsY2.size, fun k hk => (hsY2.same k (Nat.lt_of_lt_of_le hk hlow.size) fun h => h.elim (fun h => by have := (hlt k h).1; omega) fun h => by have := (hlt _ hR0).2; omega).trans (hlow.block k hk)⟩
  case done =>
    intro D xs R W hD hnD hS hi hK
    have HSS := Lib.hid hS
    clear hS
    obtain ⟨⟨A, c, hb, ho, hR⟩, hle, hlow⟩ := hi
    have c1 := hb.cell
    have HA := Lib.hid (And.intro ho (And.intro hR (And.intro hlow (And.intro hK (And.intro hD hnD)))))
    clear hb ho hR hle hlow hK hD hnD
    gi_wp2_with (fail)
    obtain ⟨ho, hR, hlow, hK, hD, hnD⟩ := HA.out
    have hDs : Spares (fun k => k = D) W (W.putObj D (.deferred none)) := ⟨rfl, rfl, rfl, by simp, fun k _ hk => World.putObj_heap_other hk⟩
    refine ⟨by simp, .inl ⟨_, _, rfl, run_takeDeferred hK, ?_⟩⟩
    refine ⟨.slice A xs.length c, by simp [results, Try.results44, go_sem], A, c, xs, HSS.out, rfl, owned_from (owned_same3 ho fun k hk => hDs.same k (owned_lt3 ho hk).2 fun e => hnD ((hR D).2 (.inr (e ▸ hk)))) (by omega), ?_⟩
    exact ⟨hlow.os, hlow.tape, hlow.output, Nat.le_trans hlow.size hDs.size, fun k hk => (hDs.same k (Nat.lt_of_lt_of_le hk hlow.size) fun e => by have := S1.out; omega).trans (hlow.block k hk)⟩

theorem collect_us (g : Nat) (lb : Array Value) (Dead : Nat → Prop) (K : Nat) (hK1 : K ≤ 1000000) (S : List Us → Prop) (w : World) (hseq : ∀ n, GivesR Try.prog n g lb (fun p : Us => #[usV p]) (fun pre _ => pre.length < K) Dead S w) (hdead : ∀ k, Dead k → k < w.heap.size)
    (eg : ∀ args w, (callFunc g args).run Try.prog w = .ok (.enter g args) w) :
    Calls Try.prog 38 #[.func (.func g) #[] lb] w fun e w' => ∃ A c xs, S xs ∧ e = .returned (.slice A xs.length c) ∧ w'.ownsRow w.heap.size 34 3 (.slice A xs.length c) xs.length (xs.flatMap usE) ∧ Below w.heap.size w w' := by
  have HA := Lib.hid (appendseq_us g lb Dead K hK1 S w hseq hdead eg)
  clear hseq hdead
  go_enter Try.func38, Try.ntmps38
  go_wp2_with (fail)
  refine HA.out.mono ?_
  rintro e w' ⟨A, c, xs, hS, rfl, h1, h2⟩
  have H1 := Lib.hid (And.intro h1 (And.intro h2 hS))
  clear h1 h2 hS
  go_wp2_with (fail)
  go_ret
  exact ⟨A, c, xs, H1.out.2.2, rfl, H1.out.1, H1.out.2.1⟩


theorem round_wideU {P : Program} {n k l f : Nat} {tmps : Array Value} {assign body : Code} {w : World} {R : Ending → World → Prop} (h : RoundIn Fence.wide n P l f tmps assign body w R) : RoundIn Fence.wide k P l f tmps assign body w R :=
  ⟨h.1, fun c cs _ => h.2 c cs fun d hd => by cases hd⟩
theorem values_us (b : Nat) (w : World) : Calls Try.prog 32 #[.map (some b)] w fun e w' =>
    e = .returned (.func (.func 40) #[] #[.pointer (some ⟨w.heap.size, 0, none⟩)]) ∧ w.alloc (.cells #[.map (some b)] 50) = w' := by
  go_enter Try.func32, Try.ntmps32
  go_wp2_with (fail)
  go_ret
  exact ⟨rfl, rfl⟩

theorem hJ0U {J : List Us → (Nat → Prop) → World → Prop} {n0 : Nat} (hJ : ∀ (s : List Us) (R : Nat → Prop) (A B : World), J s R A → OffR n0 R A B → J s R B) {s : List Us} {R : Nat → Prop} {A B : World} (h : J s R A) (hs : Spares (fun k => n0 ≤ k ∧ ¬ R k) A B) : J s R B := hJ _ _ _ _ h hs
set_option maxRecDepth 100000 in
set_option maxHeartbeats 8000000 in
theorem values_givesU (n B1 b nn : Nat) (hs : List Us) (w : World) (hbx : Boxed w B1 50 (.map (some b))) (hown : OwnsU w b nn hs) (hrise : RiseU hs) :
    GivesR Try.prog n 40 #[.pointer (some ⟨B1, 0, none⟩)] (fun x : Us => #[usV x]) (fun pre _ => pre.length < hs.length) (fun k => k = B1 ∨ k = b)
      (fun xs => (xs.map (·.seg)).Nodup ∧ (∀ h, h ∈ xs ↔ h ∈ hs) ∧ xs.length ≤ hs.length) w := by
  intro l J Jx W R0 hW hD hlt hJ hJx hY h0
  have hbW : Boxed W B1 50 (.map (some b)) := (hW.block _ hbx.lt).trans hbx
  have cb := hbW.cell
  have hbl : b < w.heap.size := World.ownsMap.lt hown
  have hownW : OwnsU W b nn hs := own_sameU hown (hW.block b hbl)
  have HY := Lib.hid hY
  have HJ := Lib.hid hJ
  have HLT := Lib.hid hlt
  have HW := Lib.hid (And.intro hbW (And.intro hownW (Nat.lt_of_lt_of_le hbl hW.size)))
  have HD := Lib.hid hD
  have HRI := Lib.hid hrise
  clear hbx hown hW hY hbW hJ hD hlt hrise hbl
  show CallsIn _ _ _ _ #[.func (.yield l) #[] #[], .pointer (some ⟨B1, 0, none⟩)] _ _
  refine callsIn_of_wp Try.func40 rfl trivial ?_ rfl
  simp only [Try.ntmps40, List.size_toArray, List.length_cons, List.length_nil, Nat.reduceAdd, Nat.reduceSub, Array.replicate_succ, Array.replicate_zero, List.push_toArray, List.append_toArray, List.nil_append, List.cons_append]
  gi_wp2_with (first
    | (gi_at_range; refine wpListIn_range_own _ rfl _ 50 rfl 3 34 (int_keyed Try.underlying3) Try.underlying50 _ b nn _ rfl hownW ?_; intro w0 hrg0 hg0 hs0)
    | gi_in)
  have HN0 := Lib.hid (And.intro (show Grows W w0 from ⟨hg0.os, hg0.tape, hg0.output, hg0.size, fun k hk => hg0.block k hk (by simp)⟩) hs0)
  have h0' := hJ0U HJ.out h0 (Spares.grows HN0.out.1)
  have HRG0 := Lib.hid hrg0
  have HJ0 := Lib.hid h0'
  have HLT0 := Lib.hid (HLT.out _ _ _ h0)
  clear h0 h0' hg0 hs0 hownW
  gi_loopw [4] (fun _ wr => ∃ (left : Lit → Bool) (cnt : Nat) (pre : List Us) (R : Nat → Prop), Hid (wr.ranges Try.prog 3 (usR (H := Unit)) b W.heap.size nn (encU hs) left cnt) ∧ Hid (pre.length + cnt ≤ hs.length) ∧ Hid (CollectedI (encU (H := Unit) hs) left (pre.map (·.seg))) ∧ Hid (∀ x ∈ pre, x ∈ hs) ∧ Hid (J pre R wr) ∧ Hid (∀ k, R k → R0 k ∨ W.heap.size < k) ∧ Hid (W.heap.size < wr.heap.size))
    (fun _ wr => wr.rangeLeft b W.heap.size)
  case atStart =>
    exact ⟨_, _, [], R0, HRG0, Lib.hid (by simp [size_encU]), Lib.hid (CollectedI.start (encU hs)), Lib.hid (fun x hx => by cases hx), HJ0, Lib.hid (fun k hk => .inl hk), Lib.hid (by rw [HN0.out.2]; omega)⟩
  case round =>
    obtain ⟨left, cnt, pre, R, HRG, HCN, HC, HM, HJP, HRR, HSZ⟩ := hrel
    have hrg := HRG.out
    gi_wp2_with (first
      | (gi_at_next; refine wpListIn_next_ranges _ rfl _ rfl 3 (int_keyed Try.underlying3) (usR (H := Unit)) encZ usV (fun key kl hk => by obtain ⟨x, hx, _⟩ := Maps.keyOf_i64 Try.underlying3 hk; exact ⟨x, hx⟩) (fun v y hv => by obtain ⟨c, hc, _⟩ := usR_inv hv; exact ⟨c, hc⟩) b W.heap.size nn _ _ _ rfl hrg ?_ ?_)
      | gi_in)
    · intro hc0 hl0
      have HL0 := Lib.hid hl0
      clear hl0
      gi_wp2_with (fail)
      go_end0
      have hp := all_there HRI.out HRG.out HC.out HM.out HL0.out
      exact ⟨⟨_, rfl⟩, .inl ⟨pre, R, ⟨HC.out.1, fun h => hp.mem_iff, by have := HCN.out; omega⟩, HJP.out⟩⟩
    · intro x c kl yd yp w2 cnt2 hkey hlk hv hat hrg2 hlt2 hg2 hs2 hen
      obtain ⟨rfl, hmem, hkc, hat'⟩ := entryU (y := (yd, yp)) hkey hv hat
      have HQ := Lib.hid (And.intro hmem hkc)
      have HRG2 := Lib.hid hrg2
      have HLT2 := Lib.hid hlt2
      have hRr : ¬ R W.heap.size := fun h => by
        rcases HRR.out _ h with h | h
        · exact absurd (HLT0.out _ h) (by omega)
        · omega
      have HC2 := Lib.hid (show CollectedI (encU (H := Unit) hs) (fun z => left z && !z.sameKey (.int .i64 x)) ((pre ++ [c]).map (·.seg)) by
        have := HC.out.step hlk hat'
        rw [List.map_append, List.map_cons, List.map_nil, hkc]
        exact this)
      have hJ2 : J pre R w2 := hJ0U HJ.out HJP.out ((Spares.refl _ wr).grown hg2 (fun k hk => by cases hk; exact ⟨Nat.le_refl _, hRr⟩))
      have h2s := HSZ.out
      obtain ⟨ck, ca, cz⟩ := c
      obtain ⟨W1, hW1⟩ : ∃ W1, w2.alloc (.cells #[.int .i64 ck, .int .i64 ca, .int .i64 cz] 34) = W1 := ⟨_, rfl⟩
      have hg1 : Grows w2 W1 := hW1 ▸ grows_alloc _ _
      have hm1 : Whole W1 w2.heap.size 34 #[.int .i64 ck, .int .i64 ca, .int .i64 cz] := by rw [← hW1]; exact Whole.made _ _ _
      have m0 := hm1.cell 0
      have m1 := hm1.cell 1
      have m2 := hm1.cell 2
      simp only [List.getElem?_toArray, List.getElem?_cons_zero, List.getElem?_cons_succ] at m0 m1 m2
      have hJ1 : J pre R W1 := hJ0U HJ.out hJ2 (Spares.grows hg1)
      have hpl : pre.length < hs.length := by
        have h3 := HCN.out
        omega
      obtain ⟨fn, tmps, assign, body, hy, hR⟩ := HY.out pre R ⟨ck, ca, cz⟩ W1 hJ1 hpl
      have HG1 := Lib.hid hg1
      have HRD := Lib.hid hR
      have HZ := Lib.hid (And.intro hs2 h2s)
      dsimp only [usV] at hy hen
      clear hRr hJ2 hJ1 hg1 hm1 hR hmem hkc hv hat hat' hlk hkey hrg2 hg2 hrg hpl h2s hs2 hlt2
      dsimp only [usV]
      gi_wp2_with (first | rw [hW1] | fail)
      clear hW1 m0 m1 m2
      refine ⟨(fun h => by cases h), RoundIn.mono (round_wideU HRD.out) ?_⟩
      rintro e W' ⟨R', hr', hs', (⟨rfl, hj'⟩ | ⟨rfl, hjx⟩)⟩
      · have HN2 := Lib.hid (And.intro hj' (And.intro hs' hr'))
        clear hj' hs' hr' HRD hy
        gi_wp2_with (fail)
        have hbR : ¬ R b := fun h => by
          rcases HRR.out _ h with h | h
          · exact HD.out _ h (.inr rfl)
          · have := HW.out.2.2; omega
        have hrR : ¬ R W.heap.size := fun h => by
          rcases HRR.out _ h with h | h
          · exact absurd (HLT0.out _ h) (by omega)
          · omega
        have z1 := HZ.out
        have hbl : b < w2.heap.size := by have := HW.out.2.2; omega
        have hrl : W.heap.size < w2.heap.size := by omega
        have hrg3 : W'.ranges Try.prog 3 (usR (H := Unit)) b W.heap.size nn (encU hs) _ cnt2 := ranges_sameU HRG2.out
          ((HN2.out.2.1.same b (Nat.lt_of_lt_of_le hbl HG1.out.size) hbR).trans (HG1.out.block b hbl))
          ((HN2.out.2.1.same W.heap.size (Nat.lt_of_lt_of_le hrl HG1.out.size) hrR).trans (HG1.out.block W.heap.size hrl))
        have hmeas : W'.rangeLeft b W.heap.size < wr.rangeLeft b W.heap.size := by rw [hrg3.left_eq, HRG.out.left_eq]; exact HLT2.out
        have hsz2 : w2.heap.size ≤ W'.heap.size := Nat.le_trans HG1.out.size HN2.out.2.1.size
        go_roundw
        case rel =>
          refine ⟨_, cnt2, pre ++ [⟨ck, ca, cz⟩], R', Lib.hid hrg3, Lib.hid ?_, HC2, Lib.hid fun y hy => ?_, Lib.hid HN2.out.1, Lib.hid fun k hk => ?_, Lib.hid (by omega)⟩
          · have := HCN.out
            have := HLT2.out
            rw [List.length_append, List.length_singleton]
            omega
          · rcases List.mem_append.1 hy with h | h
            · exact HM.out y h
            · rw [List.mem_singleton.1 h]; exact HQ.out.1
          · rcases HN2.out.2.2 k hk with h | h
            · exact HRR.out k h
            · have := HG1.out.size
              exact .inr (by omega)
        case measure => exact hmeas
      · gi_wp2_with (fail)
        refine bodyPost_ret (results_none rfl _ _ _) rfl ?_
        exact ⟨⟨_, rfl⟩, .inr ⟨_, _, hjx⟩⟩
end Go.Proofs.Ytlldcogkcjnejaa
