/-
  Statement KeysPlays: calls of a directory answer as the document says, whatever they are; so do how many, list, from. Every list of calls, no condition.
-/
import Derived.Test.YtadgbobemmfjoaaRkPut
import Derived.ProofKit
import Derived.ChangeOld
namespace Go.Proofs.Ytadgbobemmfjoaa
open Go.ChangeShapes Go.WideShapes Go.ChangeAt Go.RowKit
set_option linter.unusedSimpArgs false
set_option linter.unusedVariables false
attribute [local irreducible] wpF

theorem klen_del (key : List UInt8) (L : List Pl) {i : Nat} (h : L.length ≤ i) : (delL key L).length ≤ i + 1 := by have := delL_len key L; omega
theorem klen_put (p : Pl) (L : List Pl) {i : Nat} (h : L.length ≤ i) : (kputL p L).length ≤ i + 1 := by have := putL_len p L; omega

def outK (q : Nat) (A : Option Addr) (k : Nat) : Prop := k = q ∨ ∃ ad, A = some ad ∧ k = ad.block
theorem KsIn.another {B d : Nat} {w0 w w' : World} {out oth : Nat → Prop} {L : List Pl} (h : KsIn B w0 w d out L) (hs : Spares oth w w') (ho : ∀ k, oth k → k < w.heap.size → out k) (hB : ∀ k, oth k → B ≤ k) : KsIn B w0 w' d (fun k => out k ∨ (w.heap.size ≤ k ∧ k < w'.heap.size)) L := by
  obtain ⟨own, h1, h2, h3, h4, h5, h6⟩ := h
  have hl := h1.lt
  refine ⟨own, h1.off hs fun k hk e => ?_, h2, h3, h4.trans (hs.below h5 fun k hk e => by have := hB k e; omega), Nat.le_trans h5 hs.size, ?_⟩
  · have hk2 : k < w.heap.size := hk.elim (hl.2 k) fun e => by omega
    have h7 := h6 k (ho k e hk2)
    exact hk.elim h7.2.2 h7.2.1
  · rintro k (hk | hk)
    · exact ⟨Nat.lt_of_lt_of_le (h6 k hk).1 hs.size, (h6 k hk).2⟩
    · exact ⟨hk.2, by omega, fun e => by have := hl.2 k e; omega⟩
/-- Both directories, apart. -/
structure Two (B : Nat) (w0 w : World) (d q : Nat) (A : Option Addr) (c : Nat) (L : List Pl) : Prop where
  ks : KsIn B w0 w d (outK q A) L
  rk : RkAt w q A c L
  le : B ≤ q
theorem Two.grow {B d q c : Nat} {w0 w w' : World} {A : Option Addr} {L : List Pl} (h : Two B w0 w d q A c L) (hg : Grows w w') : Two B w0 w' d q A c L := ⟨h.ks.grow hg, h.rk.grow hg, h.le⟩
abbrev outP (q : Nat) (A : Option Addr) (lo hi : Nat) (k : Nat) : Prop := outK q A k ∨ (lo ≤ k ∧ k < hi)
theorem Two.after {B d q c : Nat} {w0 W3 w4 : World} {A : Option Addr} {L : List Pl} {lo hi : Nat} (h : RkAt W3 q A c L) (hs : KStays B (outP q A lo hi) W3 w4) : RkAt w4 q A c L :=
  h.off hs (fun e => e.2 (.inl (.inl rfl))) (fun ad e h => h.2 (.inl (.inr ⟨ad, e, rfl⟩)))
theorem Two.end_ {B d q c : Nat} {w0 W5 w6 W9 : World} {A A6 : Option Addr} {L' : List Pl} {lo hi ab bb : Nat} (hk : KsIn B w0 W5 d (outP q A lo hi) L') (hq : B ≤ q) (hs6 : Spares (fun k => k = q) W5 w6) (hr9 : RkAt W9 q A6 c L') (h6 : RkAt w6 q A6 c L')
    (ha : A6 = A ∨ ∀ ad, A6 = some ad → W5.heap.size ≤ ad.block) (hs : Spares (fun k => k = ab ∨ k = bb) w6 W9) (hab : lo ≤ ab ∧ ab < hi) (hbb : lo ≤ bb ∧ bb < hi) (hlo : B ≤ lo) : Two B w0 W9 d q A6 c L' := by
  have h1 := hk.another hs6 (fun k e _ => .inl (.inl e)) (fun k e => by omega)
  have h2 := h1.other hs (fun k e _ => .inl (.inr (by omega))) (fun k e => by omega)
  refine ⟨h2.less fun k e => ?_, hr9, hq⟩
  rcases e with e | ⟨ad, e, rfl⟩
  · exact .inl (.inl (.inl e))
  · rcases ha with ha | ha
    · subst ha
      exact .inl (.inl (.inr ⟨ad, e, rfl⟩))
    · exact .inr ⟨ha ad e, (h6.apart ad e).2⟩
set_option maxRecDepth 100000 in
set_option maxHeartbeats 8000000 in
theorem keysPlays_law (w : World) (A : Option Addr) (n c : Nat) (os : List O13) (hx : Ops13 w A n c os) :
    Calls Try.prog 3 #[.slice A n c] w fun e w' => e = .returned (.bool true) ∧ Below w.heap.size w w' := by
  have HO := Lib.hid hx
  clear hx
  go_enter Try.func3, Try.ntmps3
  go_wp2_with (fail)
  refine (head13_any w).mono ?_
  rintro e w1 ⟨rfl, hg1⟩
  have HG1 := Lib.hid hg1
  clear hg1
  go_wp2_with (fail)
  refine (new_in (B := w.heap.size) (out := fun _ => False) HG1.out HG1.out.size (fun k hk => hk.elim)).mono ?_
  rintro e w2 ⟨d, rfl, hk2, hg2⟩
  have H2 := Lib.hid hk2
  clear hk2 hg2
  go_wp2_with (fail)
  refine (rknew_any w2).mono ?_
  rintro e w2b ⟨q, rfl, hr2, hg2, hq2⟩
  have H2B := Lib.hid (show Two w.heap.size w w2b d q none 0 [] from ⟨(H2.out.more hg2).less (fun k e => by
    rcases e with e | ⟨ad, e, _⟩
    · exact .inr ⟨by omega, by rw [e]; exact hr2.box.lt⟩
    · cases e), hr2, by have := H2.out.size; omega⟩)
  clear hr2 hg2 hq2
  have HGT := Lib.hid (great13_any A n c os w2b (HO.out.grow H2B.out.ks.low))
  go_wp2_with (fail)
  refine HGT.out.mono ?_
  rintro e w3 (⟨rfl, rfl⟩ | ⟨rfl, hn300, hsh, rfl⟩)
  · go_wp2_with (fail)
    go_ret
    exact ⟨rfl, H2B.out.ks.low⟩
  have HSH := Lib.hid hsh
  clear hsh
  go_wp2_with (fail)
  go_loopw [6, 7, 8, 9, 10, 11, 12, 13, 14, 15, 16, 17, 18, 19, 20, 21, 22, 23] (fun vi _ _ _ _ _ _ _ _ _ _ _ _ _ _ _ _ _ wr => ∃ (i : Nat) (L : List Pl) (AR : Option Addr) (cR : Nat), i ≤ n ∧ vi = .int .i64 (i : Int) ∧ Hid (Two w.heap.size w wr d q AR cR L ∧ L.length ≤ i)) (fun vi _ _ _ _ _ _ _ _ _ _ _ _ _ _ _ _ _ _ => n - (intOf vi).toNat)
  case atStart => exact ⟨0, [], none, 0, Nat.zero_le _, rfl, Lib.hid ⟨H2B.out, Nat.le_refl _⟩⟩
  case round =>
    obtain ⟨i, L, AR, cR, hi, rfl, HJ0⟩ := hrel
    by_cases hlt : i < n
    · have HJ := Lib.hid (show Two w.heap.size w wr d q AR cR L ∧ L.length ≤ i ∧ i < 300 from ⟨HJ0.out.1, HJ0.out.2, by omega⟩)
      clear HJ0
      obtain ⟨ad, ⟨qw, ⟨q0, q1, q2, q3, q4⟩, qn⟩, rfl, ho, hbl, hok, hcs⟩ := Ops13.at (HO.out.grow HJ.out.1.ks.low) hlt
      obtain ⟨c0, c1, c2, c3, c4, c5, c6⟩ := hcs wr (Grows.refl _)
      dsimp only at c0 c1 c2 c3 c4 c5 c6
      have k0 : (0 : Int) ≤ (i : Int) := by omega
      have k1 : (i : Int) < (n : Int) := by omega
      have HQK := Lib.hid (show q2.length < 9000 from HSH.out i _ hlt ho)
      have HQN := Lib.hid (show -9223372036854775808 ≤ qn ∧ qn ≤ 9223372036854775807 from hok.n)
      have hg1 := grows_alloc wr (.cells #[.int .i64 qw, .int .i64 q0, .int .i64 q1, .string ⟨q2.toArray⟩, .int .i64 q3, .int .i64 q4, .int .i64 qn] 34)
      have hm1 := Whole.made wr 34 #[.int .i64 qw, .int .i64 q0, .int .i64 q1, .string ⟨q2.toArray⟩, .int .i64 q3, .int .i64 q4, .int .i64 qn]
      obtain ⟨W1, hW1⟩ : ∃ W, wr.alloc (.cells #[.int .i64 qw, .int .i64 q0, .int .i64 q1, .string ⟨q2.toArray⟩, .int .i64 q3, .int .i64 q4, .int .i64 qn] 34) = W := ⟨_, rfl⟩
      rw [hW1] at hg1 hm1
      have hs1 : W1.heap.size = wr.heap.size + 1 := by rw [← hW1, World.size_alloc]
      have hg2 := grows_alloc W1 (.cells #[.int .i64 0, .int .i64 0, .string ⟨#[]⟩, .int .i64 0, .int .i64 0] 32)
      have hm2 := Whole.made W1 32 #[.int .i64 0, .int .i64 0, .string ⟨#[]⟩, .int .i64 0, .int .i64 0]
      obtain ⟨W2, hW2⟩ : ∃ W, W1.alloc (.cells #[.int .i64 0, .int .i64 0, .string ⟨#[]⟩, .int .i64 0, .int .i64 0] 32) = W := ⟨_, rfl⟩
      rw [hW2] at hg2 hm2
      have hs2 : W2.heap.size = W1.heap.size + 1 := by rw [← hW2, World.size_alloc]
      have hg3 := grows_alloc W2 (.cells #[.int .i64 0, .int .i64 0, .string ⟨#[]⟩, .int .i64 0, .int .i64 0] 32)
      have hm3 := Whole.made W2 32 #[.int .i64 0, .int .i64 0, .string ⟨#[]⟩, .int .i64 0, .int .i64 0]
      obtain ⟨W3, hW3⟩ : ∃ W, W2.alloc (.cells #[.int .i64 0, .int .i64 0, .string ⟨#[]⟩, .int .i64 0, .int .i64 0] 32) = W := ⟨_, rfl⟩
      rw [hW3] at hg3 hm3
      have hs3 : W3.heap.size = W2.heap.size + 1 := by rw [← hW3, World.size_alloc]
      obtain ⟨ob, hob⟩ : ∃ b, wr.heap.size = b := ⟨_, rfl⟩
      rw [hob] at hm1
      obtain ⟨ab, hab⟩ : ∃ b, W1.heap.size = b := ⟨_, rfl⟩
      rw [hab] at hm2
      obtain ⟨bb, hbb⟩ : ∃ b, W2.heap.size = b := ⟨_, rfl⟩
      rw [hbb] at hm3
      have H3 := Lib.hid (show Grows wr W3 ∧ Whole W3 ob 34 #[.int .i64 qw, .int .i64 q0, .int .i64 q1, .string ⟨q2.toArray⟩, .int .i64 q3, .int .i64 q4, .int .i64 qn] ∧ Whole W3 ab 32 #[.int .i64 0, .int .i64 0, .string ⟨#[]⟩, .int .i64 0, .int .i64 0] ∧ Whole W3 bb 32 #[.int .i64 0, .int .i64 0, .string ⟨#[]⟩, .int .i64 0, .int .i64 0] ∧ wr.heap.size ≤ ob ∧ ob < W3.heap.size ∧ wr.heap.size ≤ ab ∧ ab < W3.heap.size ∧ wr.heap.size ≤ bb ∧ bb < W3.heap.size ∧ ob ≠ ab ∧ ab ≠ bb ∧ ob ≠ bb from
        ⟨Grows.trans hg1 (Grows.trans hg2 hg3), hg3.whole (hg2.whole hm1), hg3.whole hm2, hm3, by omega, by omega, by omega, by omega, by omega, by omega, by omega, by omega, by omega⟩)
      clear ho hbl hok hcs hg1 hg2 hg3 hm1 hm2 hm3 hs1 hs2 hs3
      have qq := H3.out.2.1
      have e0 := qq.cell 0
      have e1 := qq.cell 1
      have e2 := qq.cell 2
      have e3 := qq.cell 3
      have e4 := qq.cell 4
      have e5 := qq.cell 5
      have e6 := qq.cell 6
      simp only [List.getElem?_toArray, List.getElem?_cons_zero, List.getElem?_cons_succ] at e0 e1 e2 e3 e4 e5 e6
      clear qq
      by_cases h3 : qw = 3
      · have h3b : (qw == 3) = true := by simpa using h3
        clear h3
        have hx0 : ∃ x, getL q2 L = x := ⟨_, rfl⟩
        obtain ⟨x0, hx0⟩ := hx0
        obtain ⟨v, hv⟩ : ∃ v, x0.getD Pl.zero = v := ⟨_, rfl⟩
        obtain ⟨s, hs⟩ : ∃ s, x0.isSome = s := ⟨_, rfl⟩
        have hpl : plTo x0 = .tuple #[plV v, .bool s] := by unfold plTo; rw [hv, hs]
        obtain ⟨v0, v1, v2, v3, v4⟩ := v
        have HPL := Lib.hid (show plTo x0 = .tuple #[.agg #[.int .i64 v0, .int .i64 v1, .string ⟨v2.toArray⟩, .int .i64 v3, .int .i64 v4], .bool s] from hpl)
        have HX0 := Lib.hid hx0
        clear hx0 hv hs hpl
        have hk3 := HJ.out.1.ks.more H3.out.1
        have HCA := Lib.hid (show Calls Try.prog 13 #[.pointer (some ⟨d, 0, none⟩), .string ⟨q2.toArray⟩] W3 fun e w' => e = .returned (.tuple #[.agg #[.int .i64 v0, .int .i64 v1, .string ⟨v2.toArray⟩, .int .i64 v3, .int .i64 v4], .bool s]) ∧ KsIn w.heap.size w w' d (outP q AR wr.heap.size W3.heap.size) (delL q2 L) ∧ KStays w.heap.size (outP q AR wr.heap.size W3.heap.size) W3 w' from by
          rw [← HPL.out]
          exact del_at q2 hk3 (by show q2.length ≤ _; have := HQK.out; omega) (by have := HJ.out.2; omega) HX0.out rfl)
        have HEQ := Lib.hid (show ∀ w', (Op.equalIn 10000 32 (.agg #[.int .i64 v0, .int .i64 v1, .string ⟨v2.toArray⟩, .int .i64 v3, .int .i64 v4]) (.agg #[.int .i64 v0, .int .i64 v1, .string ⟨v2.toArray⟩, .int .i64 v3, .int .i64 v4])).run Try.prog w' = .ok true w' from fun w' => (eq_pl ⟨v0, v1, v2, v3, v4⟩ ⟨v0, v1, v2, v3, v4⟩ w').trans (by rw [decide_eq_true rfl]))
        clear hk3
        go_wp2_with (first | rw [hW1] | rw [hW2] | rw [hW3] | fail)
        clear hW1 hW2 hW3 hob hab hbb e0 e1 e2 e3 e4 e5 e6 c0 c1 c2 c3 c4 c5 c6
        refine HCA.out.mono ?_
        rintro e w4 ⟨rfl, hk4, hs4⟩
        have hm5 := Whole.made w4 32 #[.int .i64 v0, .int .i64 v1, .string ⟨v2.toArray⟩, .int .i64 v3, .int .i64 v4]
        have hg5 := grows_alloc w4 (.cells #[.int .i64 v0, .int .i64 v1, .string ⟨v2.toArray⟩, .int .i64 v3, .int .i64 v4] 32)
        obtain ⟨W5, hW5⟩ : ∃ W, w4.alloc (.cells #[.int .i64 v0, .int .i64 v1, .string ⟨v2.toArray⟩, .int .i64 v3, .int .i64 v4] 32) = W := ⟨_, rfl⟩
        rw [hW5] at hm5 hg5
        obtain ⟨r1, hr1⟩ : ∃ b, w4.heap.size = b := ⟨_, rfl⟩
        rw [hr1] at hm5
        have hr5 : RkAt W5 q AR cR L := (Two.after (B := w.heap.size) (d := d) (w0 := w) (HJ.out.1.rk.grow H3.out.1) hs4).grow hg5
        have hkb : ∀ k, wr.heap.size ≤ k → k < W3.heap.size → W5.heap[k]? = W3.heap[k]? := fun k h1 h2 => (hg5.block k (by have := hs4.size; omega)).trans (hs4.keep h2 (.inr (.inr ⟨h1, h2⟩)))
        have hz := H3.out.2.2.2.2
        have H5 := Lib.hid (show KsIn w.heap.size w W5 d (outP q AR wr.heap.size W3.heap.size) (delL q2 L) ∧ RkAt W5 q AR cR L ∧ Whole W5 ob 34 #[.int .i64 qw, .int .i64 q0, .int .i64 q1, .string ⟨q2.toArray⟩, .int .i64 q3, .int .i64 q4, .int .i64 qn] ∧ Whole W5 ab 32 #[.int .i64 0, .int .i64 0, .string ⟨#[]⟩, .int .i64 0, .int .i64 0] ∧ Whole W5 bb 32 #[.int .i64 0, .int .i64 0, .string ⟨#[]⟩, .int .i64 0, .int .i64 0] ∧ Whole W5 r1 32 #[.int .i64 v0, .int .i64 v1, .string ⟨v2.toArray⟩, .int .i64 v3, .int .i64 v4] ∧ W3.heap.size ≤ r1 ∧ q < wr.heap.size ∧ r1 < W5.heap.size ∧ W3.heap.size ≤ W5.heap.size from
          ⟨hk4.grow hg5, hr5, (hkb ob hz.1 hz.2.1).trans H3.out.2.1, (hkb ab hz.2.2.1 hz.2.2.2.1).trans H3.out.2.2.1, (hkb bb hz.2.2.2.2.1 hz.2.2.2.2.2.1).trans H3.out.2.2.2.1, hm5, by have := hs4.size; omega, HJ.out.1.rk.box.lt, hm5.lt, by have := hs4.size; have := hg5.size; omega⟩)
        clear hk4 hs4 hm5 hg5 hr5 hkb hz HCA
        have qq := H5.out.2.2.1
        have f0 := qq.cell 0
        have f1 := qq.cell 1
        have f2 := qq.cell 2
        have f3 := qq.cell 3
        have f4 := qq.cell 4
        have f5 := qq.cell 5
        have f6 := qq.cell 6
        simp only [List.getElem?_toArray, List.getElem?_cons_zero, List.getElem?_cons_succ] at f0 f1 f2 f3 f4 f5 f6
        clear qq
        have HCB := Lib.hid (show ∀ W, RkAt W q AR cR L → Calls Try.prog 14 #[.pointer (some ⟨q, 0, none⟩), .string ⟨q2.toArray⟩] W fun e w' => e = .returned (.tuple #[.agg #[.int .i64 v0, .int .i64 v1, .string ⟨v2.toArray⟩, .int .i64 v3, .int .i64 v4], .bool s]) ∧ RkTo W q AR (delL q2 L) w' from fun W h => by
          rw [← HPL.out]
          exact (rkdel_any h (by have := HJ.out.2; omega) q2).mono fun e w' ⟨h1, h2⟩ => ⟨by rw [h1, HX0.out], h2⟩)
        go_wp2_with (first | rw [hW5] | fail)
        clear hW5 hr1 f0 f1 f2 f3 f4 f5 f6
        refine (HCB.out W5 H5.out.2.1).mono ?_
        rintro e w6 ⟨rfl, A6, cc6, hr6, hs6, ha6⟩
        have hm7 := Whole.made w6 32 #[.int .i64 v0, .int .i64 v1, .string ⟨v2.toArray⟩, .int .i64 v3, .int .i64 v4]
        have hg7 := grows_alloc w6 (.cells #[.int .i64 v0, .int .i64 v1, .string ⟨v2.toArray⟩, .int .i64 v3, .int .i64 v4] 32)
        obtain ⟨W7, hW7⟩ : ∃ W, w6.alloc (.cells #[.int .i64 v0, .int .i64 v1, .string ⟨v2.toArray⟩, .int .i64 v3, .int .i64 v4] 32) = W := ⟨_, rfl⟩
        rw [hW7] at hm7 hg7
        obtain ⟨r2, hr2⟩ : ∃ b, w6.heap.size = b := ⟨_, rfl⟩
        rw [hr2] at hm7
        have hlow : ∀ k, k < W5.heap.size → k ≠ q → W7.heap[k]? = W5.heap[k]? := fun k h1 h2 => (hg7.block k (by have := hs6.size; omega)).trans (hs6.same k h1 h2)
        obtain ⟨hz1, hz2, hz3, hz4⟩ := H5.out.2.2.2.2.2.2
        have hz := H3.out.2.2.2.2
        have hma : Whole W7 ab 32 #[.int .i64 0, .int .i64 0, .string ⟨#[]⟩, .int .i64 0, .int .i64 0] := (hlow ab (by omega) (by omega)).trans H5.out.2.2.2.1
        have hmb : Whole W7 bb 32 #[.int .i64 0, .int .i64 0, .string ⟨#[]⟩, .int .i64 0, .int .i64 0] := (hlow bb (by omega) (by omega)).trans H5.out.2.2.2.2.1
        have hmr : Whole W7 r1 32 #[.int .i64 v0, .int .i64 v1, .string ⟨v2.toArray⟩, .int .i64 v3, .int .i64 v4] := (hlow r1 (by omega) (by omega)).trans H5.out.2.2.2.2.2.1
        have hmo : Whole W7 ob 34 #[.int .i64 qw, .int .i64 q0, .int .i64 q1, .string ⟨q2.toArray⟩, .int .i64 q3, .int .i64 q4, .int .i64 qn] := (hlow ob (by omega) (by omega)).trans H5.out.2.2.1
        have hrl : W5.heap.size ≤ r2 := by have := hs6.size; omega
        obtain ⟨W8, hW8⟩ : ∃ W, W7.setRow ab #[.int .i64 v0, .int .i64 v1, .string ⟨v2.toArray⟩, .int .i64 v3, .int .i64 v4] = W := ⟨_, rfl⟩
        have hs8 : Spares (fun k => k = ab) W7 W8 := by rw [← hW8]; exact spares_row _ _ _
        have hma8 : Whole W8 ab 32 #[.int .i64 v0, .int .i64 v1, .string ⟨v2.toArray⟩, .int .i64 v3, .int .i64 v4] := by rw [← hW8]; exact hma.rowed _
        have hmb8 : Whole W8 bb 32 #[.int .i64 0, .int .i64 0, .string ⟨#[]⟩, .int .i64 0, .int .i64 0] := (hs8.same bb hmb.lt (by omega)).trans hmb
        have hmr8 : Whole W8 r2 32 #[.int .i64 v0, .int .i64 v1, .string ⟨v2.toArray⟩, .int .i64 v3, .int .i64 v4] := (hs8.same r2 hm7.lt (by omega)).trans hm7
        obtain ⟨W9, hW9⟩ : ∃ W, W8.setRow bb #[.int .i64 v0, .int .i64 v1, .string ⟨v2.toArray⟩, .int .i64 v3, .int .i64 v4] = W := ⟨_, rfl⟩
        have hs9 : Spares (fun k => k = bb) W8 W9 := by rw [← hW9]; exact spares_row _ _ _
        have hmb9 : Whole W9 bb 32 #[.int .i64 v0, .int .i64 v1, .string ⟨v2.toArray⟩, .int .i64 v3, .int .i64 v4] := by rw [← hW9]; exact hmb8.rowed _
        have hma9 : Whole W9 ab 32 #[.int .i64 v0, .int .i64 v1, .string ⟨v2.toArray⟩, .int .i64 v3, .int .i64 v4] := (hs9.same ab hma8.lt (by omega)).trans hma8
        have hs79 : Spares (fun k => k = ab ∨ k = bb) w6 W9 := ((Spares.grows hg7).trans (hs8.wider fun k _ e => .inl e)).trans (hs9.wider fun k _ e => .inr e)
        have hr9 : RkAt W9 q A6 cc6 (delL q2 L) := by
          refine ((hr6.off hs79 (by omega) fun ad e e2 => ?_))
          have := hr6.apart ad e
          rcases ha6 with h | h
          · have h2 := HJ.out.1.rk.apart ad (h ▸ e)
            omega
          · have h2 := h ad e
            omega
        have HAB := Lib.hid (And.intro hma hmb8)
        have KT := Lib.hid (show Two w.heap.size w W9 d q A6 cc6 (delL q2 L) ∧ Whole W9 ab 32 #[.int .i64 v0, .int .i64 v1, .string ⟨v2.toArray⟩, .int .i64 v3, .int .i64 v4] ∧ Whole W9 bb 32 #[.int .i64 v0, .int .i64 v1, .string ⟨v2.toArray⟩, .int .i64 v3, .int .i64 v4] ∧ (delL q2 L).length ≤ i + 1 ∧ i < 300 ∧ i < n from
          ⟨Two.end_ H5.out.1 HJ.out.1.le hs6 hr9 hr6 ha6 hs79 ⟨hz.2.2.1, hz.2.2.2.1⟩ ⟨hz.2.2.2.2.1, hz.2.2.2.2.2.1⟩ (by have := HJ.out.1.ks.size; omega), hma9, hmb9, by have := delL_len q2 L; have := HJ.out.2; omega, by omega, by omega⟩)
        have qq := hmr
        have g0 := qq.cell 0
        have g1 := qq.cell 1
        have g2 := qq.cell 2
        have g3 := qq.cell 3
        have g4 := qq.cell 4
        simp only [List.getElem?_toArray, List.getElem?_cons_zero, List.getElem?_cons_succ] at g0 g1 g2 g3 g4
        clear qq
        have qq := hmr8
        have h0 := qq.cell 0
        have h1 := qq.cell 1
        have h2 := qq.cell 2
        have h3 := qq.cell 3
        have h4 := qq.cell 4
        simp only [List.getElem?_toArray, List.getElem?_cons_zero, List.getElem?_cons_succ] at h0 h1 h2 h3 h4
        clear qq
        clear hr6 hs6 ha6 hm7 hg7 hlow hz1 hz2 hz3 hz4 hz hma hmb hmr hmo hrl hs8 hma8 hmb8 hmr8 hs9 hmb9 hma9 hs79 hr9 HCB
        obtain ⟨m, hm⟩ : ∃ m, (delL q2 L).length = m := ⟨_, rfl⟩
        have HLL := Lib.hid (show (delL q2 L).length = m ∧ m ≤ 301 from ⟨hm, by have := KT.out.2.2.2; omega⟩)
        clear hm
        have HPA := Lib.hid (show ∀ w', Grows W9 w' → Whole w' ab 32 #[.int .i64 v0, .int .i64 v1, .string ⟨v2.toArray⟩, .int .i64 v3, .int .i64 v4] from fun w' hg => hg.whole KT.out.2.1)
        have HPB := Lib.hid (show ∀ w', Grows W9 w' → Whole w' bb 32 #[.int .i64 v0, .int .i64 v1, .string ⟨v2.toArray⟩, .int .i64 v3, .int .i64 v4] from fun w' hg => hg.whole KT.out.2.2.1)
        have HMA := Lib.hid (show ∀ w', Grows W9 w' → Calls Try.prog 22 #[.pointer (some ⟨d, 0, none⟩)] w' fun e w'' => e = .returned (.int .i64 (m : Int)) ∧ Grows w' w'' from fun w' hg => (many_at (KT.out.1.grow hg).ks (by have := HLL.out; omega) HLL.out.1).mono fun e w'' ⟨h1, h2⟩ => ⟨h1, h2 ▸ Grows.refl _⟩)
        have HMB := Lib.hid (show ∀ w', Grows W9 w' → Calls Try.prog 23 #[.pointer (some ⟨q, 0, none⟩)] w' fun e w'' => e = .returned (.int .i64 (m : Int)) ∧ Grows w' w'' from fun w' hg => rkmany_any (KT.out.1.grow hg).rk HLL.out.1)
        have HLA := Lib.hid (show ∀ w', Grows W9 w' → Calls Try.prog 24 #[.pointer (some ⟨d, 0, none⟩)] w' fun e w'' => ∃ (A3 : Option Addr) (c3 : Nat), e = .returned (.slice A3 m c3) ∧ Grows w' w'' ∧ Row w'' w''.heap.size A3 m (((delL q2 L).map fun p : Pl => p.key).map kS) from fun w' hg => (list_at (KT.out.1.grow hg).ks (by have := HLL.out; omega) rfl).mono fun e w'' ⟨A3, n3, c3, h2, h3, h4⟩ => by
          have hl3 := OwnS.len h3
          rw [List.length_map, HLL.out.1] at hl3
          subst hl3
          exact ⟨A3, c3, h2, h4, Row.owned h3⟩)
        have HLB := Lib.hid (show ∀ w', Grows W9 w' → Calls Try.prog 25 #[.pointer (some ⟨q, 0, none⟩)] w' fun e w'' => ∃ (A3 : Option Addr) (c3 : Nat), e = .returned (.slice A3 m c3) ∧ Grows w' w'' ∧ Row w'' w''.heap.size A3 m (((delL q2 L).map fun p : Pl => p.key).map kS) from fun w' hg => (rklist_any (KT.out.1.grow hg).rk (by have := HLL.out; omega)).mono fun e w'' ⟨A3, n3, c3, h2, h3, h4⟩ => by
          have hl3 := OwnS.len h3
          rw [List.length_map, HLL.out.1] at hl3
          subst hl3
          exact ⟨A3, c3, h2, h4, Row.owned h3⟩)
        have HSN := Lib.hid (show ∀ w' (A3 : Option Addr) (c3 : Nat) (A4 : Option Addr) (c4 : Nat), Row w' w'.heap.size A3 m (((delL q2 L).map fun p : Pl => p.key).map kS) → Row w' w'.heap.size A4 m (((delL q2 L).map fun p : Pl => p.key).map kS) → Calls Try.prog 17 #[.slice A3 m c3, .slice A4 m c4] w' fun e w'' => e = .returned (.bool true) ∧ Grows w' w'' from fun w' A3 c3 A4 c4 hr hr2 => by
          have h5 := ksame_names A3 m c3 A4 m c4 ((delL q2 L).map fun p : Pl => p.key) ((delL q2 L).map fun p : Pl => p.key) w' hr hr2 (by have := HLL.out; omega)
          rw [show decide (((delL q2 L).map fun p : Pl => p.key) = ((delL q2 L).map fun p : Pl => p.key)) = true from decide_eq_true rfl] at h5
          exact h5)
        have hzz : ((s : Bool) != s) = false := by first | rfl | simp
        have qq := KT.out.2.1
        have a0 := qq.cell 0
        have a1 := qq.cell 1
        have a2 := qq.cell 2
        have a3 := qq.cell 3
        have a4 := qq.cell 4
        simp only [List.getElem?_toArray, List.getElem?_cons_zero, List.getElem?_cons_succ] at a0 a1 a2 a3 a4
        clear qq
        have qq := KT.out.2.2.1
        have b0 := qq.cell 0
        have b1 := qq.cell 1
        have b2 := qq.cell 2
        have b3 := qq.cell 3
        have b4 := qq.cell 4
        simp only [List.getElem?_toArray, List.getElem?_cons_zero, List.getElem?_cons_succ] at b0 b1 b2 b3 b4
        clear qq
        have heq := HEQ.out
        go_wp2_with (first
          | rw [hW7]
          | (refine wpList_store_row rfl 32 _ _ rfl ab #[.int .i64 v0, .int .i64 v1, .string ⟨v2.toArray⟩, .int .i64 v3, .int .i64 v4] rfl rfl 32 _ HAB.out.1 sizePl rfl (plV_one _ _ _ _ _) ?_; rw [hW8])
          | (refine wpList_store_row rfl 32 _ _ rfl bb #[.int .i64 v0, .int .i64 v1, .string ⟨v2.toArray⟩, .int .i64 v3, .int .i64 v4] rfl rfl 32 _ HAB.out.2 sizePl rfl (plV_one _ _ _ _ _) ?_; rw [hW9])
          | fail)
        clear hW7 hW8 hW9 hr2 g0 g1 g2 g3 g4 h0 h1 h2 h3 h4
        clear a0 a1 a2 a3 a4 b0 b1 b2 b3 b4 heq hzz
        refine (HMA.out W9 (Grows.refl _)).mono ?_
        rintro e wa ⟨rfl, hga⟩
        have G1 := Lib.hid hga
        clear hga
        go_wp2_with (fail)
        refine (HMB.out wa G1.out).mono ?_
        rintro e wb ⟨rfl, hgb⟩
        have G2 := Lib.hid (Grows.trans G1.out hgb)
        clear hgb
        go_wp2_with (fail)
        refine (HLA.out wb G2.out).mono ?_
        rintro e wc ⟨AL1, cl1, rfl, hgc, hrow1⟩
        have G3 := Lib.hid (And.intro (Grows.trans G2.out hgc) hrow1)
        clear hgc hrow1
        go_wp2_with (fail)
        refine (HLB.out wc G3.out.1).mono ?_
        rintro e wd ⟨AL2, cl2, rfl, hgd, hrow2⟩
        have HS := Lib.hid (HSN.out wd AL1 cl1 AL2 cl2 (hgd.row G3.out.2) hrow2)
        have G4 := Lib.hid (Grows.trans G3.out.1 hgd)
        clear hgd hrow2
        go_wp2_with (fail)
        refine HS.out.mono ?_
        rintro e wz ⟨rfl, hgz⟩
        have HCwz := Lib.hid (Grows.trans G4.out hgz)
        clear hgz
        go_wp2_with (fail)
        go_roundw
        case rel => exact ⟨i + 1, delL q2 L, A6, cc6, by have := KT.out.2.2.2; omega, by first | rfl | go_num, Lib.hid ⟨KT.out.1.grow HCwz.out, KT.out.2.2.2.1⟩⟩
        case measure => simp [intOf]; omega
      by_cases h4 : qw = 4
      · have h3b : (qw == 3) = false := by simpa using h3
        clear h3
        have h4b : (qw == 4) = true := by simpa using h4
        clear h4
        have hx0 : ∃ x, getL q2 L = x := ⟨_, rfl⟩
        obtain ⟨x0, hx0⟩ := hx0
        obtain ⟨v, hv⟩ : ∃ v, x0.getD Pl.zero = v := ⟨_, rfl⟩
        obtain ⟨s, hs⟩ : ∃ s, x0.isSome = s := ⟨_, rfl⟩
        have hpl : plTo x0 = .tuple #[plV v, .bool s] := by unfold plTo; rw [hv, hs]
        obtain ⟨v0, v1, v2, v3, v4⟩ := v
        have HPL := Lib.hid (show plTo x0 = .tuple #[.agg #[.int .i64 v0, .int .i64 v1, .string ⟨v2.toArray⟩, .int .i64 v3, .int .i64 v4], .bool s] from hpl)
        have HX0 := Lib.hid hx0
        clear hx0 hv hs hpl
        have hk3 := HJ.out.1.ks.more H3.out.1
        have HCA := Lib.hid (show Calls Try.prog 15 #[.pointer (some ⟨d, 0, none⟩), .string ⟨q2.toArray⟩] W3 fun e w' => e = .returned (.tuple #[.agg #[.int .i64 v0, .int .i64 v1, .string ⟨v2.toArray⟩, .int .i64 v3, .int .i64 v4], .bool s]) ∧ KsIn w.heap.size w w' d (outP q AR wr.heap.size W3.heap.size) (L) ∧ KStays w.heap.size (outP q AR wr.heap.size W3.heap.size) W3 w' from by
          rw [← HPL.out]
          exact (get_at q2 hk3 (by show q2.length ≤ _; have := HQK.out; omega) (by have := HJ.out.2; omega) HX0.out).mono fun e w' ⟨h1, h2⟩ => ⟨h1, hk3.grow h2, Spares.grows h2⟩)
        have HEQ := Lib.hid (show ∀ w', (Op.equalIn 10000 32 (.agg #[.int .i64 v0, .int .i64 v1, .string ⟨v2.toArray⟩, .int .i64 v3, .int .i64 v4]) (.agg #[.int .i64 v0, .int .i64 v1, .string ⟨v2.toArray⟩, .int .i64 v3, .int .i64 v4])).run Try.prog w' = .ok true w' from fun w' => (eq_pl ⟨v0, v1, v2, v3, v4⟩ ⟨v0, v1, v2, v3, v4⟩ w').trans (by rw [decide_eq_true rfl]))
        clear hk3
        go_wp2_with (first | rw [hW1] | rw [hW2] | rw [hW3] | fail)
        clear hW1 hW2 hW3 hob hab hbb e0 e1 e2 e3 e4 e5 e6 c0 c1 c2 c3 c4 c5 c6
        refine HCA.out.mono ?_
        rintro e w4 ⟨rfl, hk4, hs4⟩
        have hm5 := Whole.made w4 32 #[.int .i64 v0, .int .i64 v1, .string ⟨v2.toArray⟩, .int .i64 v3, .int .i64 v4]
        have hg5 := grows_alloc w4 (.cells #[.int .i64 v0, .int .i64 v1, .string ⟨v2.toArray⟩, .int .i64 v3, .int .i64 v4] 32)
        obtain ⟨W5, hW5⟩ : ∃ W, w4.alloc (.cells #[.int .i64 v0, .int .i64 v1, .string ⟨v2.toArray⟩, .int .i64 v3, .int .i64 v4] 32) = W := ⟨_, rfl⟩
        rw [hW5] at hm5 hg5
        obtain ⟨r1, hr1⟩ : ∃ b, w4.heap.size = b := ⟨_, rfl⟩
        rw [hr1] at hm5
        have hr5 : RkAt W5 q AR cR L := (Two.after (B := w.heap.size) (d := d) (w0 := w) (HJ.out.1.rk.grow H3.out.1) hs4).grow hg5
        have hkb : ∀ k, wr.heap.size ≤ k → k < W3.heap.size → W5.heap[k]? = W3.heap[k]? := fun k h1 h2 => (hg5.block k (by have := hs4.size; omega)).trans (hs4.keep h2 (.inr (.inr ⟨h1, h2⟩)))
        have hz := H3.out.2.2.2.2
        have H5 := Lib.hid (show KsIn w.heap.size w W5 d (outP q AR wr.heap.size W3.heap.size) (L) ∧ RkAt W5 q AR cR L ∧ Whole W5 ob 34 #[.int .i64 qw, .int .i64 q0, .int .i64 q1, .string ⟨q2.toArray⟩, .int .i64 q3, .int .i64 q4, .int .i64 qn] ∧ Whole W5 ab 32 #[.int .i64 0, .int .i64 0, .string ⟨#[]⟩, .int .i64 0, .int .i64 0] ∧ Whole W5 bb 32 #[.int .i64 0, .int .i64 0, .string ⟨#[]⟩, .int .i64 0, .int .i64 0] ∧ Whole W5 r1 32 #[.int .i64 v0, .int .i64 v1, .string ⟨v2.toArray⟩, .int .i64 v3, .int .i64 v4] ∧ W3.heap.size ≤ r1 ∧ q < wr.heap.size ∧ r1 < W5.heap.size ∧ W3.heap.size ≤ W5.heap.size from
          ⟨hk4.grow hg5, hr5, (hkb ob hz.1 hz.2.1).trans H3.out.2.1, (hkb ab hz.2.2.1 hz.2.2.2.1).trans H3.out.2.2.1, (hkb bb hz.2.2.2.2.1 hz.2.2.2.2.2.1).trans H3.out.2.2.2.1, hm5, by have := hs4.size; omega, HJ.out.1.rk.box.lt, hm5.lt, by have := hs4.size; have := hg5.size; omega⟩)
        clear hk4 hs4 hm5 hg5 hr5 hkb hz HCA
        have qq := H5.out.2.2.1
        have f0 := qq.cell 0
        have f1 := qq.cell 1
        have f2 := qq.cell 2
        have f3 := qq.cell 3
        have f4 := qq.cell 4
        have f5 := qq.cell 5
        have f6 := qq.cell 6
        simp only [List.getElem?_toArray, List.getElem?_cons_zero, List.getElem?_cons_succ] at f0 f1 f2 f3 f4 f5 f6
        clear qq
        have HCB := Lib.hid (show ∀ W, RkAt W q AR cR L → Calls Try.prog 16 #[.pointer (some ⟨q, 0, none⟩), .string ⟨q2.toArray⟩] W fun e w' => e = .returned (.tuple #[.agg #[.int .i64 v0, .int .i64 v1, .string ⟨v2.toArray⟩, .int .i64 v3, .int .i64 v4], .bool s]) ∧ RkTo W q AR (L) w' from fun W h => by
          rw [← HPL.out]
          exact (rkget_any h (by have := HJ.out.2; omega) q2).mono fun e w' ⟨h1, h2⟩ => ⟨by rw [h1, HX0.out], AR, cR, h.grow h2, Spares.grows h2, .inl rfl⟩)
        go_wp2_with (first | rw [hW5] | fail)
        clear hW5 hr1 f0 f1 f2 f3 f4 f5 f6
        refine (HCB.out W5 H5.out.2.1).mono ?_
        rintro e w6 ⟨rfl, A6, cc6, hr6, hs6, ha6⟩
        have hm7 := Whole.made w6 32 #[.int .i64 v0, .int .i64 v1, .string ⟨v2.toArray⟩, .int .i64 v3, .int .i64 v4]
        have hg7 := grows_alloc w6 (.cells #[.int .i64 v0, .int .i64 v1, .string ⟨v2.toArray⟩, .int .i64 v3, .int .i64 v4] 32)
        obtain ⟨W7, hW7⟩ : ∃ W, w6.alloc (.cells #[.int .i64 v0, .int .i64 v1, .string ⟨v2.toArray⟩, .int .i64 v3, .int .i64 v4] 32) = W := ⟨_, rfl⟩
        rw [hW7] at hm7 hg7
        obtain ⟨r2, hr2⟩ : ∃ b, w6.heap.size = b := ⟨_, rfl⟩
        rw [hr2] at hm7
        have hlow : ∀ k, k < W5.heap.size → k ≠ q → W7.heap[k]? = W5.heap[k]? := fun k h1 h2 => (hg7.block k (by have := hs6.size; omega)).trans (hs6.same k h1 h2)
        obtain ⟨hz1, hz2, hz3, hz4⟩ := H5.out.2.2.2.2.2.2
        have hz := H3.out.2.2.2.2
        have hma : Whole W7 ab 32 #[.int .i64 0, .int .i64 0, .string ⟨#[]⟩, .int .i64 0, .int .i64 0] := (hlow ab (by omega) (by omega)).trans H5.out.2.2.2.1
        have hmb : Whole W7 bb 32 #[.int .i64 0, .int .i64 0, .string ⟨#[]⟩, .int .i64 0, .int .i64 0] := (hlow bb (by omega) (by omega)).trans H5.out.2.2.2.2.1
        have hmr : Whole W7 r1 32 #[.int .i64 v0, .int .i64 v1, .string ⟨v2.toArray⟩, .int .i64 v3, .int .i64 v4] := (hlow r1 (by omega) (by omega)).trans H5.out.2.2.2.2.2.1
        have hmo : Whole W7 ob 34 #[.int .i64 qw, .int .i64 q0, .int .i64 q1, .string ⟨q2.toArray⟩, .int .i64 q3, .int .i64 q4, .int .i64 qn] := (hlow ob (by omega) (by omega)).trans H5.out.2.2.1
        have hrl : W5.heap.size ≤ r2 := by have := hs6.size; omega
        obtain ⟨W8, hW8⟩ : ∃ W, W7.setRow ab #[.int .i64 v0, .int .i64 v1, .string ⟨v2.toArray⟩, .int .i64 v3, .int .i64 v4] = W := ⟨_, rfl⟩
        have hs8 : Spares (fun k => k = ab) W7 W8 := by rw [← hW8]; exact spares_row _ _ _
        have hma8 : Whole W8 ab 32 #[.int .i64 v0, .int .i64 v1, .string ⟨v2.toArray⟩, .int .i64 v3, .int .i64 v4] := by rw [← hW8]; exact hma.rowed _
        have hmb8 : Whole W8 bb 32 #[.int .i64 0, .int .i64 0, .string ⟨#[]⟩, .int .i64 0, .int .i64 0] := (hs8.same bb hmb.lt (by omega)).trans hmb
        have hmr8 : Whole W8 r2 32 #[.int .i64 v0, .int .i64 v1, .string ⟨v2.toArray⟩, .int .i64 v3, .int .i64 v4] := (hs8.same r2 hm7.lt (by omega)).trans hm7
        obtain ⟨W9, hW9⟩ : ∃ W, W8.setRow bb #[.int .i64 v0, .int .i64 v1, .string ⟨v2.toArray⟩, .int .i64 v3, .int .i64 v4] = W := ⟨_, rfl⟩
        have hs9 : Spares (fun k => k = bb) W8 W9 := by rw [← hW9]; exact spares_row _ _ _
        have hmb9 : Whole W9 bb 32 #[.int .i64 v0, .int .i64 v1, .string ⟨v2.toArray⟩, .int .i64 v3, .int .i64 v4] := by rw [← hW9]; exact hmb8.rowed _
        have hma9 : Whole W9 ab 32 #[.int .i64 v0, .int .i64 v1, .string ⟨v2.toArray⟩, .int .i64 v3, .int .i64 v4] := (hs9.same ab hma8.lt (by omega)).trans hma8
        have hs79 : Spares (fun k => k = ab ∨ k = bb) w6 W9 := ((Spares.grows hg7).trans (hs8.wider fun k _ e => .inl e)).trans (hs9.wider fun k _ e => .inr e)
        have hr9 : RkAt W9 q A6 cc6 (L) := by
          refine ((hr6.off hs79 (by omega) fun ad e e2 => ?_))
          have := hr6.apart ad e
          rcases ha6 with h | h
          · have h2 := HJ.out.1.rk.apart ad (h ▸ e)
            omega
          · have h2 := h ad e
            omega
        have HAB := Lib.hid (And.intro hma hmb8)
        have KT := Lib.hid (show Two w.heap.size w W9 d q A6 cc6 (L) ∧ Whole W9 ab 32 #[.int .i64 v0, .int .i64 v1, .string ⟨v2.toArray⟩, .int .i64 v3, .int .i64 v4] ∧ Whole W9 bb 32 #[.int .i64 v0, .int .i64 v1, .string ⟨v2.toArray⟩, .int .i64 v3, .int .i64 v4] ∧ (L).length ≤ i + 1 ∧ i < 300 ∧ i < n from
          ⟨Two.end_ H5.out.1 HJ.out.1.le hs6 hr9 hr6 ha6 hs79 ⟨hz.2.2.1, hz.2.2.2.1⟩ ⟨hz.2.2.2.2.1, hz.2.2.2.2.2.1⟩ (by have := HJ.out.1.ks.size; omega), hma9, hmb9, by have := Nat.le_refl L.length; have := HJ.out.2; omega, by omega, by omega⟩)
        have qq := hmr
        have g0 := qq.cell 0
        have g1 := qq.cell 1
        have g2 := qq.cell 2
        have g3 := qq.cell 3
        have g4 := qq.cell 4
        simp only [List.getElem?_toArray, List.getElem?_cons_zero, List.getElem?_cons_succ] at g0 g1 g2 g3 g4
        clear qq
        have qq := hmr8
        have h0 := qq.cell 0
        have h1 := qq.cell 1
        have h2 := qq.cell 2
        have h3 := qq.cell 3
        have h4 := qq.cell 4
        simp only [List.getElem?_toArray, List.getElem?_cons_zero, List.getElem?_cons_succ] at h0 h1 h2 h3 h4
        clear qq
        clear hr6 hs6 ha6 hm7 hg7 hlow hz1 hz2 hz3 hz4 hz hma hmb hmr hmo hrl hs8 hma8 hmb8 hmr8 hs9 hmb9 hma9 hs79 hr9 HCB
        obtain ⟨m, hm⟩ : ∃ m, (L).length = m := ⟨_, rfl⟩
        have HLL := Lib.hid (show (L).length = m ∧ m ≤ 301 from ⟨hm, by have := KT.out.2.2.2; omega⟩)
        clear hm
        have HPA := Lib.hid (show ∀ w', Grows W9 w' → Whole w' ab 32 #[.int .i64 v0, .int .i64 v1, .string ⟨v2.toArray⟩, .int .i64 v3, .int .i64 v4] from fun w' hg => hg.whole KT.out.2.1)
        have HPB := Lib.hid (show ∀ w', Grows W9 w' → Whole w' bb 32 #[.int .i64 v0, .int .i64 v1, .string ⟨v2.toArray⟩, .int .i64 v3, .int .i64 v4] from fun w' hg => hg.whole KT.out.2.2.1)
        have HMA := Lib.hid (show ∀ w', Grows W9 w' → Calls Try.prog 22 #[.pointer (some ⟨d, 0, none⟩)] w' fun e w'' => e = .returned (.int .i64 (m : Int)) ∧ Grows w' w'' from fun w' hg => (many_at (KT.out.1.grow hg).ks (by have := HLL.out; omega) HLL.out.1).mono fun e w'' ⟨h1, h2⟩ => ⟨h1, h2 ▸ Grows.refl _⟩)
        have HMB := Lib.hid (show ∀ w', Grows W9 w' → Calls Try.prog 23 #[.pointer (some ⟨q, 0, none⟩)] w' fun e w'' => e = .returned (.int .i64 (m : Int)) ∧ Grows w' w'' from fun w' hg => rkmany_any (KT.out.1.grow hg).rk HLL.out.1)
        have HLA := Lib.hid (show ∀ w', Grows W9 w' → Calls Try.prog 24 #[.pointer (some ⟨d, 0, none⟩)] w' fun e w'' => ∃ (A3 : Option Addr) (c3 : Nat), e = .returned (.slice A3 m c3) ∧ Grows w' w'' ∧ Row w'' w''.heap.size A3 m (((L).map fun p : Pl => p.key).map kS) from fun w' hg => (list_at (KT.out.1.grow hg).ks (by have := HLL.out; omega) rfl).mono fun e w'' ⟨A3, n3, c3, h2, h3, h4⟩ => by
          have hl3 := OwnS.len h3
          rw [List.length_map, HLL.out.1] at hl3
          subst hl3
          exact ⟨A3, c3, h2, h4, Row.owned h3⟩)
        have HLB := Lib.hid (show ∀ w', Grows W9 w' → Calls Try.prog 25 #[.pointer (some ⟨q, 0, none⟩)] w' fun e w'' => ∃ (A3 : Option Addr) (c3 : Nat), e = .returned (.slice A3 m c3) ∧ Grows w' w'' ∧ Row w'' w''.heap.size A3 m (((L).map fun p : Pl => p.key).map kS) from fun w' hg => (rklist_any (KT.out.1.grow hg).rk (by have := HLL.out; omega)).mono fun e w'' ⟨A3, n3, c3, h2, h3, h4⟩ => by
          have hl3 := OwnS.len h3
          rw [List.length_map, HLL.out.1] at hl3
          subst hl3
          exact ⟨A3, c3, h2, h4, Row.owned h3⟩)
        have HSN := Lib.hid (show ∀ w' (A3 : Option Addr) (c3 : Nat) (A4 : Option Addr) (c4 : Nat), Row w' w'.heap.size A3 m (((L).map fun p : Pl => p.key).map kS) → Row w' w'.heap.size A4 m (((L).map fun p : Pl => p.key).map kS) → Calls Try.prog 17 #[.slice A3 m c3, .slice A4 m c4] w' fun e w'' => e = .returned (.bool true) ∧ Grows w' w'' from fun w' A3 c3 A4 c4 hr hr2 => by
          have h5 := ksame_names A3 m c3 A4 m c4 ((L).map fun p : Pl => p.key) ((L).map fun p : Pl => p.key) w' hr hr2 (by have := HLL.out; omega)
          rw [show decide (((L).map fun p : Pl => p.key) = ((L).map fun p : Pl => p.key)) = true from decide_eq_true rfl] at h5
          exact h5)
        have hzz : ((s : Bool) != s) = false := by first | rfl | simp
        have qq := KT.out.2.1
        have a0 := qq.cell 0
        have a1 := qq.cell 1
        have a2 := qq.cell 2
        have a3 := qq.cell 3
        have a4 := qq.cell 4
        simp only [List.getElem?_toArray, List.getElem?_cons_zero, List.getElem?_cons_succ] at a0 a1 a2 a3 a4
        clear qq
        have qq := KT.out.2.2.1
        have b0 := qq.cell 0
        have b1 := qq.cell 1
        have b2 := qq.cell 2
        have b3 := qq.cell 3
        have b4 := qq.cell 4
        simp only [List.getElem?_toArray, List.getElem?_cons_zero, List.getElem?_cons_succ] at b0 b1 b2 b3 b4
        clear qq
        have heq := HEQ.out
        go_wp2_with (first
          | rw [hW7]
          | (refine wpList_store_row rfl 32 _ _ rfl ab #[.int .i64 v0, .int .i64 v1, .string ⟨v2.toArray⟩, .int .i64 v3, .int .i64 v4] rfl rfl 32 _ HAB.out.1 sizePl rfl (plV_one _ _ _ _ _) ?_; rw [hW8])
          | (refine wpList_store_row rfl 32 _ _ rfl bb #[.int .i64 v0, .int .i64 v1, .string ⟨v2.toArray⟩, .int .i64 v3, .int .i64 v4] rfl rfl 32 _ HAB.out.2 sizePl rfl (plV_one _ _ _ _ _) ?_; rw [hW9])
          | fail)
        clear hW7 hW8 hW9 hr2 g0 g1 g2 g3 g4 h0 h1 h2 h3 h4
        clear a0 a1 a2 a3 a4 b0 b1 b2 b3 b4 heq hzz
        refine (HMA.out W9 (Grows.refl _)).mono ?_
        rintro e wa ⟨rfl, hga⟩
        have G1 := Lib.hid hga
        clear hga
        go_wp2_with (fail)
        refine (HMB.out wa G1.out).mono ?_
        rintro e wb ⟨rfl, hgb⟩
        have G2 := Lib.hid (Grows.trans G1.out hgb)
        clear hgb
        go_wp2_with (fail)
        refine (HLA.out wb G2.out).mono ?_
        rintro e wc ⟨AL1, cl1, rfl, hgc, hrow1⟩
        have G3 := Lib.hid (And.intro (Grows.trans G2.out hgc) hrow1)
        clear hgc hrow1
        go_wp2_with (fail)
        refine (HLB.out wc G3.out.1).mono ?_
        rintro e wd ⟨AL2, cl2, rfl, hgd, hrow2⟩
        have HS := Lib.hid (HSN.out wd AL1 cl1 AL2 cl2 (hgd.row G3.out.2) hrow2)
        have G4 := Lib.hid (Grows.trans G3.out.1 hgd)
        clear hgd hrow2
        go_wp2_with (fail)
        refine HS.out.mono ?_
        rintro e wz ⟨rfl, hgz⟩
        have HCwz := Lib.hid (Grows.trans G4.out hgz)
        clear hgz
        go_wp2_with (fail)
        go_roundw
        case rel => exact ⟨i + 1, L, A6, cc6, by have := KT.out.2.2.2; omega, by first | rfl | go_num, Lib.hid ⟨KT.out.1.grow HCwz.out, KT.out.2.2.2.1⟩⟩
        case measure => simp [intOf]; omega
      by_cases h5 : qw = 5
      · have h3b : (qw == 3) = false := by simpa using h3
        clear h3
        have h4b : (qw == 4) = false := by simpa using h4
        clear h4
        have h5b : (qw == 5) = true := by simpa using h5
        clear h5
        have HTW := Lib.hid (HJ.out.1.grow H3.out.1)
        have HPO := Lib.hid (show ∀ w', Grows W3 w' → w'.cell? ⟨ob, 3, none⟩ = some (.string ⟨q2.toArray⟩) ∧ w'.cell? ⟨ob, 6, none⟩ = some (.int .i64 qn) from fun w' hg => by
          have h1 := hg.whole H3.out.2.1
          refine ⟨?_, ?_⟩ <;> (rw [h1.cell]; rfl))
        obtain ⟨mf, hmf⟩ : ∃ m, (fromP q2 qn.toNat L).length = m := ⟨_, rfl⟩
        have HMF := Lib.hid (show (fromP q2 qn.toNat L).length = mf ∧ mf ≤ 300 from ⟨hmf, by
          have h1 : (fromP q2 qn.toNat L).length ≤ (wantK q2 (L.map fun p : Pl => p.key)).length := List.length_take_le' _ _
          have h2 : (wantK q2 (L.map fun p : Pl => p.key)).length ≤ (L.map fun p : Pl => p.key).length := List.length_filter_le _ _
          rw [List.length_map] at h2
          have := HJ.out.2
          omega⟩)
        clear hmf
        have HFA := Lib.hid (show ∀ w', Grows W3 w' → Calls Try.prog 18 #[.pointer (some ⟨d, 0, none⟩), .string ⟨q2.toArray⟩, .int .i64 qn] w' fun e w'' => Grows w' w'' ∧ ∃ x : Option Addr × Nat, e = .returned (.slice x.1 mf x.2) ∧ Row w'' w''.heap.size x.1 mf ((fromP q2 qn.toNat L).map kS) from fun w' hg => (from_at q2 qn (HTW.out.grow hg).ks HQN.out (by have := HJ.out.2; omega) rfl).mono fun e w'' ⟨A3, n3, c3, h2, h3, h4⟩ => by
          have hl3 := OwnS.len h3
          rw [HMF.out.1] at hl3
          subst hl3
          exact ⟨h4, (A3, c3), h2, Row.owned h3⟩)
        have HFB := Lib.hid (show ∀ w', Grows W3 w' → Calls Try.prog 19 #[.pointer (some ⟨q, 0, none⟩), .string ⟨q2.toArray⟩, .int .i64 qn] w' fun e w'' => Grows w' w'' ∧ ∃ x : Option Addr × Nat, e = .returned (.slice x.1 mf x.2) ∧ Row w'' w''.heap.size x.1 mf ((fromP q2 qn.toNat L).map kS) from fun w' hg => (rkfrom_any (HTW.out.grow hg).rk (by have := HJ.out.2; omega) q2 qn).mono fun e w'' ⟨A3, n3, c3, h2, h3, h4⟩ => by
          have hl3 := OwnS.len h3
          rw [HMF.out.1] at hl3
          subst hl3
          exact ⟨h4, (A3, c3), h2, Row.owned h3⟩)
        have HSF := Lib.hid (show ∀ w' (A3 : Option Addr) (c3 : Nat) (A4 : Option Addr) (c4 : Nat), Row w' w'.heap.size A3 mf ((fromP q2 qn.toNat L).map kS) → Row w' w'.heap.size A4 mf ((fromP q2 qn.toNat L).map kS) → Calls Try.prog 17 #[.slice A3 mf c3, .slice A4 mf c4] w' fun e w'' => e = .returned (.bool true) ∧ Grows w' w'' from fun w' A3 c3 A4 c4 hr hr2 => by
          have h5 := ksame_names A3 mf c3 A4 mf c4 (fromP q2 qn.toNat L) (fromP q2 qn.toNat L) w' hr hr2 (by have := HMF.out; omega)
          rw [show decide ((fromP q2 qn.toNat L) = (fromP q2 qn.toNat L)) = true from decide_eq_true rfl] at h5
          exact h5)
        have HEQ := Lib.hid (show ∀ w', (Op.equalIn 10000 32 (.agg #[.int .i64 0, .int .i64 0, .string ⟨#[]⟩, .int .i64 0, .int .i64 0]) (.agg #[.int .i64 0, .int .i64 0, .string ⟨#[]⟩, .int .i64 0, .int .i64 0])).run Try.prog w' = .ok true w' from fun w' => (eq_pl Pl.zero Pl.zero w').trans (by rw [decide_eq_true rfl]))
        go_wp2_with (first | rw [hW1] | rw [hW2] | rw [hW3] | fail)
        clear hW1 hW2 hW3 hob hab hbb e0 e1 e2 e3 e4 e5 e6 c0 c1 c2 c3 c4 c5 c6
        refine wp_region_facts (E := Grows) [valFact (.pointer (some ⟨d, 0, none⟩)), valFact (.pointer (some ⟨ob, 1, none⟩)), valFact (.pointer (some ⟨ob, 2, none⟩)), valFact (.pointer (some ⟨ob, 3, none⟩)), valFact (.string ⟨q2.toArray⟩), valFact (.pointer (some ⟨ob, 6, none⟩)), valFact (.int .i64 qn), rowFactK mf (fromP q2 qn.toNat L), valFact (.pointer (some ⟨q, 0, none⟩)), valFact (.pointer (some ⟨ob, 1, none⟩)), valFact (.pointer (some ⟨ob, 2, none⟩)), valFact (.pointer (some ⟨ob, 3, none⟩)), valFact (.string ⟨q2.toArray⟩), valFact (.pointer (some ⟨ob, 6, none⟩)), valFact (.int .i64 qn), rowFactK mf (fromP q2 qn.toNat L), valFact (.bool true), valFact (.bool false)] (by kernel_rfl) (by kernel_rfl) (fun _ _ _ => Grows.trans) (grows_drew _) ?_
        refine f_val (.pointer (some ⟨d, 0, none⟩)) (by rfl) ?_ ?_
        · intro w' hC; clear hC; go_simp
        simp only [Act.put, List.setIfInBounds_toArray, List.set_cons_zero, List.set_cons_succ]
        refine f_val (.pointer (some ⟨ob, 1, none⟩)) (by rfl) ?_ ?_
        · intro w' hC; clear hC; go_simp
        simp only [Act.put, List.setIfInBounds_toArray, List.set_cons_zero, List.set_cons_succ]
        refine f_val (.pointer (some ⟨ob, 2, none⟩)) (by rfl) ?_ ?_
        · intro w' hC; clear hC; go_simp
        simp only [Act.put, List.setIfInBounds_toArray, List.set_cons_zero, List.set_cons_succ]
        refine f_val (.pointer (some ⟨ob, 3, none⟩)) (by rfl) ?_ ?_
        · intro w' hC; clear hC; go_simp
        simp only [Act.put, List.setIfInBounds_toArray, List.set_cons_zero, List.set_cons_succ]
        refine f_val (.string ⟨q2.toArray⟩) (by rfl) ?_ ?_
        · intro w' hC; obtain ⟨z3, z6⟩ := HPO.out w' hC; clear hC; go_simp
        simp only [Act.put, List.setIfInBounds_toArray, List.set_cons_zero, List.set_cons_succ]
        refine f_val (.pointer (some ⟨ob, 6, none⟩)) (by rfl) ?_ ?_
        · intro w' hC; clear hC; go_simp
        simp only [Act.put, List.setIfInBounds_toArray, List.set_cons_zero, List.set_cons_succ]
        refine f_val (.int .i64 qn) (by rfl) ?_ ?_
        · intro w' hC; obtain ⟨z3, z6⟩ := HPO.out w' hC; clear hC; go_simp
        simp only [Act.put, List.setIfInBounds_toArray, List.set_cons_zero, List.set_cons_succ]
        refine f_callK 18 #[.pointer (some ⟨d, 0, none⟩), .string ⟨q2.toArray⟩, .int .i64 qn] (by rfl) (by intro w' hC; clear hC; go_simp) ?_ ?_
        · intro w' hC; exact HFA.out w' hC
        rintro ⟨AL1, cl1⟩
        dsimp only [rowFactK]
        simp only [Act.put, List.setIfInBounds_toArray, List.set_cons_zero, List.set_cons_succ]
        refine f_val (.pointer (some ⟨q, 0, none⟩)) (by rfl) ?_ ?_
        · intro w' hC; clear hC; go_simp
        simp only [Act.put, List.setIfInBounds_toArray, List.set_cons_zero, List.set_cons_succ]
        refine f_val (.pointer (some ⟨ob, 1, none⟩)) (by rfl) ?_ ?_
        · intro w' hC; clear hC; go_simp
        simp only [Act.put, List.setIfInBounds_toArray, List.set_cons_zero, List.set_cons_succ]
        refine f_val (.pointer (some ⟨ob, 2, none⟩)) (by rfl) ?_ ?_
        · intro w' hC; clear hC; go_simp
        simp only [Act.put, List.setIfInBounds_toArray, List.set_cons_zero, List.set_cons_succ]
        refine f_val (.pointer (some ⟨ob, 3, none⟩)) (by rfl) ?_ ?_
        · intro w' hC; clear hC; go_simp
        simp only [Act.put, List.setIfInBounds_toArray, List.set_cons_zero, List.set_cons_succ]
        refine f_val (.string ⟨q2.toArray⟩) (by rfl) ?_ ?_
        · intro w' hC; obtain ⟨z3, z6⟩ := HPO.out w' hC; clear hC; go_simp
        simp only [Act.put, List.setIfInBounds_toArray, List.set_cons_zero, List.set_cons_succ]
        refine f_val (.pointer (some ⟨ob, 6, none⟩)) (by rfl) ?_ ?_
        · intro w' hC; clear hC; go_simp
        simp only [Act.put, List.setIfInBounds_toArray, List.set_cons_zero, List.set_cons_succ]
        refine f_val (.int .i64 qn) (by rfl) ?_ ?_
        · intro w' hC; obtain ⟨z3, z6⟩ := HPO.out w' hC; clear hC; go_simp
        simp only [Act.put, List.setIfInBounds_toArray, List.set_cons_zero, List.set_cons_succ]
        refine f_callK 19 #[.pointer (some ⟨q, 0, none⟩), .string ⟨q2.toArray⟩, .int .i64 qn] (by rfl) (by intro w' hC; clear hC; go_simp) ?_ ?_
        · intro w' hC; exact HFB.out w' hC
        rintro ⟨AL2, cl2⟩
        dsimp only [rowFactK]
        simp only [Act.put, List.setIfInBounds_toArray, List.set_cons_zero, List.set_cons_succ]
        refine f_call 17 #[.slice AL1 mf cl1, .slice AL2 mf cl2] (.bool true) (by rfl) (by intro w' hC; clear hC; go_simp) ?_ ?_
        · intro w' hC hks; exact HSF.out w' AL1 cl1 AL2 cl2 (by first | exact Known.get hks 0 rfl rfl | exact Known.get hks 1 rfl rfl) (by first | exact Known.get hks 0 rfl rfl | exact Known.get hks 1 rfl rfl)
        simp only [Act.put, List.setIfInBounds_toArray, List.set_cons_zero, List.set_cons_succ]
        refine f_val (.bool false) (by rfl) ?_ ?_
        · intro w' hC; clear hC; go_simp
        simp only [Act.put, List.setIfInBounds_toArray, List.set_cons_zero, List.set_cons_succ]
        refine wpF_end ?_
        intro w5 hC hks
        have HCw5 := Lib.hid hC
        clear hC hks
        have KT := Lib.hid (show Two w.heap.size w w5 d q AR cR L ∧ Whole w5 ab 32 #[.int .i64 0, .int .i64 0, .string ⟨#[]⟩, .int .i64 0, .int .i64 0] ∧ Whole w5 bb 32 #[.int .i64 0, .int .i64 0, .string ⟨#[]⟩, .int .i64 0, .int .i64 0] ∧ L.length ≤ i + 1 ∧ i < 300 ∧ i < n from
          ⟨HTW.out.grow HCw5.out, HCw5.out.whole H3.out.2.2.1, HCw5.out.whole H3.out.2.2.2.1, by have := HJ.out.2; omega, by omega, by omega⟩)
        clear HFA HFB HSF HPO
        obtain ⟨m, hm⟩ : ∃ m, (L).length = m := ⟨_, rfl⟩
        have HLL := Lib.hid (show (L).length = m ∧ m ≤ 301 from ⟨hm, by have := KT.out.2.2.2; omega⟩)
        clear hm
        have HPA := Lib.hid (show ∀ w', Grows w5 w' → Whole w' ab 32 #[.int .i64 0, .int .i64 0, .string ⟨#[]⟩, .int .i64 0, .int .i64 0] from fun w' hg => hg.whole KT.out.2.1)
        have HPB := Lib.hid (show ∀ w', Grows w5 w' → Whole w' bb 32 #[.int .i64 0, .int .i64 0, .string ⟨#[]⟩, .int .i64 0, .int .i64 0] from fun w' hg => hg.whole KT.out.2.2.1)
        have HMA := Lib.hid (show ∀ w', Grows w5 w' → Calls Try.prog 22 #[.pointer (some ⟨d, 0, none⟩)] w' fun e w'' => e = .returned (.int .i64 (m : Int)) ∧ Grows w' w'' from fun w' hg => (many_at (KT.out.1.grow hg).ks (by have := HLL.out; omega) HLL.out.1).mono fun e w'' ⟨h1, h2⟩ => ⟨h1, h2 ▸ Grows.refl _⟩)
        have HMB := Lib.hid (show ∀ w', Grows w5 w' → Calls Try.prog 23 #[.pointer (some ⟨q, 0, none⟩)] w' fun e w'' => e = .returned (.int .i64 (m : Int)) ∧ Grows w' w'' from fun w' hg => rkmany_any (KT.out.1.grow hg).rk HLL.out.1)
        have HLA := Lib.hid (show ∀ w', Grows w5 w' → Calls Try.prog 24 #[.pointer (some ⟨d, 0, none⟩)] w' fun e w'' => ∃ (A3 : Option Addr) (c3 : Nat), e = .returned (.slice A3 m c3) ∧ Grows w' w'' ∧ Row w'' w''.heap.size A3 m (((L).map fun p : Pl => p.key).map kS) from fun w' hg => (list_at (KT.out.1.grow hg).ks (by have := HLL.out; omega) rfl).mono fun e w'' ⟨A3, n3, c3, h2, h3, h4⟩ => by
          have hl3 := OwnS.len h3
          rw [List.length_map, HLL.out.1] at hl3
          subst hl3
          exact ⟨A3, c3, h2, h4, Row.owned h3⟩)
        have HLB := Lib.hid (show ∀ w', Grows w5 w' → Calls Try.prog 25 #[.pointer (some ⟨q, 0, none⟩)] w' fun e w'' => ∃ (A3 : Option Addr) (c3 : Nat), e = .returned (.slice A3 m c3) ∧ Grows w' w'' ∧ Row w'' w''.heap.size A3 m (((L).map fun p : Pl => p.key).map kS) from fun w' hg => (rklist_any (KT.out.1.grow hg).rk (by have := HLL.out; omega)).mono fun e w'' ⟨A3, n3, c3, h2, h3, h4⟩ => by
          have hl3 := OwnS.len h3
          rw [List.length_map, HLL.out.1] at hl3
          subst hl3
          exact ⟨A3, c3, h2, h4, Row.owned h3⟩)
        have HSN := Lib.hid (show ∀ w' (A3 : Option Addr) (c3 : Nat) (A4 : Option Addr) (c4 : Nat), Row w' w'.heap.size A3 m (((L).map fun p : Pl => p.key).map kS) → Row w' w'.heap.size A4 m (((L).map fun p : Pl => p.key).map kS) → Calls Try.prog 17 #[.slice A3 m c3, .slice A4 m c4] w' fun e w'' => e = .returned (.bool true) ∧ Grows w' w'' from fun w' A3 c3 A4 c4 hr hr2 => by
          have h5 := ksame_names A3 m c3 A4 m c4 ((L).map fun p : Pl => p.key) ((L).map fun p : Pl => p.key) w' hr hr2 (by have := HLL.out; omega)
          rw [show decide (((L).map fun p : Pl => p.key) = ((L).map fun p : Pl => p.key)) = true from decide_eq_true rfl] at h5
          exact h5)
        have hzz : ((false : Bool) != false) = false := by first | rfl | simp
        have qq := KT.out.2.1
        have a0 := qq.cell 0
        have a1 := qq.cell 1
        have a2 := qq.cell 2
        have a3 := qq.cell 3
        have a4 := qq.cell 4
        simp only [List.getElem?_toArray, List.getElem?_cons_zero, List.getElem?_cons_succ] at a0 a1 a2 a3 a4
        clear qq
        have qq := KT.out.2.2.1
        have b0 := qq.cell 0
        have b1 := qq.cell 1
        have b2 := qq.cell 2
        have b3 := qq.cell 3
        have b4 := qq.cell 4
        simp only [List.getElem?_toArray, List.getElem?_cons_zero, List.getElem?_cons_succ] at b0 b1 b2 b3 b4
        clear qq
        have heq := HEQ.out
        go_wp2_with (fail)
        clear a0 a1 a2 a3 a4 b0 b1 b2 b3 b4 heq hzz
        refine (HMA.out w5 (Grows.refl _)).mono ?_
        rintro e wa ⟨rfl, hga⟩
        have G1 := Lib.hid hga
        clear hga
        go_wp2_with (fail)
        refine (HMB.out wa G1.out).mono ?_
        rintro e wb ⟨rfl, hgb⟩
        have G2 := Lib.hid (Grows.trans G1.out hgb)
        clear hgb
        go_wp2_with (fail)
        refine (HLA.out wb G2.out).mono ?_
        rintro e wc ⟨AL1, cl1, rfl, hgc, hrow1⟩
        have G3 := Lib.hid (And.intro (Grows.trans G2.out hgc) hrow1)
        clear hgc hrow1
        go_wp2_with (fail)
        refine (HLB.out wc G3.out.1).mono ?_
        rintro e wd ⟨AL2, cl2, rfl, hgd, hrow2⟩
        have HS := Lib.hid (HSN.out wd AL1 cl1 AL2 cl2 (hgd.row G3.out.2) hrow2)
        have G4 := Lib.hid (Grows.trans G3.out.1 hgd)
        clear hgd hrow2
        go_wp2_with (fail)
        refine HS.out.mono ?_
        rintro e wz ⟨rfl, hgz⟩
        have HCwz := Lib.hid (Grows.trans G4.out hgz)
        clear hgz
        go_wp2_with (fail)
        go_roundw
        case rel => exact ⟨i + 1, L, AR, cR, by have := KT.out.2.2.2; omega, by first | rfl | go_num, Lib.hid ⟨KT.out.1.grow HCwz.out, KT.out.2.2.2.1⟩⟩
        case measure => simp [intOf]; omega
      have h3b : (qw == 3) = false := by simpa using h3
      clear h3
      have h4b : (qw == 4) = false := by simpa using h4
      clear h4
      have h5b : (qw == 5) = false := by simpa using h5
      clear h5
      have hx0 : ∃ x, getL q2 L = x := ⟨_, rfl⟩
      obtain ⟨x0, hx0⟩ := hx0
      obtain ⟨v, hv⟩ : ∃ v, x0.getD Pl.zero = v := ⟨_, rfl⟩
      obtain ⟨s, hs⟩ : ∃ s, x0.isSome = s := ⟨_, rfl⟩
      have hpl : plTo x0 = .tuple #[plV v, .bool s] := by unfold plTo; rw [hv, hs]
      obtain ⟨v0, v1, v2, v3, v4⟩ := v
      have HPL := Lib.hid (show plTo x0 = .tuple #[.agg #[.int .i64 v0, .int .i64 v1, .string ⟨v2.toArray⟩, .int .i64 v3, .int .i64 v4], .bool s] from hpl)
      have HX0 := Lib.hid hx0
      clear hx0 hv hs hpl
      have hk3 := HJ.out.1.ks.more H3.out.1
      have HCA := Lib.hid (show Calls Try.prog 20 #[.pointer (some ⟨d, 0, none⟩), .agg #[.int .i64 q0, .int .i64 q1, .string ⟨q2.toArray⟩, .int .i64 q3, .int .i64 q4]] W3 fun e w' => e = .returned (.tuple #[.agg #[.int .i64 v0, .int .i64 v1, .string ⟨v2.toArray⟩, .int .i64 v3, .int .i64 v4], .bool s]) ∧ KsIn w.heap.size w w' d (outP q AR wr.heap.size W3.heap.size) (kputL ⟨q0, q1, q2, q3, q4⟩ L) ∧ KStays w.heap.size (outP q AR wr.heap.size W3.heap.size) W3 w' from by
        rw [← HPL.out]
        exact put_at ⟨q0, q1, q2, q3, q4⟩ hk3 (by show q2.length ≤ _; have := HQK.out; omega) (by have := HJ.out.2; omega) HX0.out rfl)
      have HEQ := Lib.hid (show ∀ w', (Op.equalIn 10000 32 (.agg #[.int .i64 v0, .int .i64 v1, .string ⟨v2.toArray⟩, .int .i64 v3, .int .i64 v4]) (.agg #[.int .i64 v0, .int .i64 v1, .string ⟨v2.toArray⟩, .int .i64 v3, .int .i64 v4])).run Try.prog w' = .ok true w' from fun w' => (eq_pl ⟨v0, v1, v2, v3, v4⟩ ⟨v0, v1, v2, v3, v4⟩ w').trans (by rw [decide_eq_true rfl]))
      clear hk3
      go_wp2_with (first | rw [hW1] | rw [hW2] | rw [hW3] | fail)
      clear hW1 hW2 hW3 hob hab hbb e0 e1 e2 e3 e4 e5 e6 c0 c1 c2 c3 c4 c5 c6
      refine HCA.out.mono ?_
      rintro e w4 ⟨rfl, hk4, hs4⟩
      have hm5 := Whole.made w4 32 #[.int .i64 v0, .int .i64 v1, .string ⟨v2.toArray⟩, .int .i64 v3, .int .i64 v4]
      have hg5 := grows_alloc w4 (.cells #[.int .i64 v0, .int .i64 v1, .string ⟨v2.toArray⟩, .int .i64 v3, .int .i64 v4] 32)
      obtain ⟨W5, hW5⟩ : ∃ W, w4.alloc (.cells #[.int .i64 v0, .int .i64 v1, .string ⟨v2.toArray⟩, .int .i64 v3, .int .i64 v4] 32) = W := ⟨_, rfl⟩
      rw [hW5] at hm5 hg5
      obtain ⟨r1, hr1⟩ : ∃ b, w4.heap.size = b := ⟨_, rfl⟩
      rw [hr1] at hm5
      have hr5 : RkAt W5 q AR cR L := (Two.after (B := w.heap.size) (d := d) (w0 := w) (HJ.out.1.rk.grow H3.out.1) hs4).grow hg5
      have hkb : ∀ k, wr.heap.size ≤ k → k < W3.heap.size → W5.heap[k]? = W3.heap[k]? := fun k h1 h2 => (hg5.block k (by have := hs4.size; omega)).trans (hs4.keep h2 (.inr (.inr ⟨h1, h2⟩)))
      have hz := H3.out.2.2.2.2
      have H5 := Lib.hid (show KsIn w.heap.size w W5 d (outP q AR wr.heap.size W3.heap.size) (kputL ⟨q0, q1, q2, q3, q4⟩ L) ∧ RkAt W5 q AR cR L ∧ Whole W5 ob 34 #[.int .i64 qw, .int .i64 q0, .int .i64 q1, .string ⟨q2.toArray⟩, .int .i64 q3, .int .i64 q4, .int .i64 qn] ∧ Whole W5 ab 32 #[.int .i64 0, .int .i64 0, .string ⟨#[]⟩, .int .i64 0, .int .i64 0] ∧ Whole W5 bb 32 #[.int .i64 0, .int .i64 0, .string ⟨#[]⟩, .int .i64 0, .int .i64 0] ∧ Whole W5 r1 32 #[.int .i64 v0, .int .i64 v1, .string ⟨v2.toArray⟩, .int .i64 v3, .int .i64 v4] ∧ W3.heap.size ≤ r1 ∧ q < wr.heap.size ∧ r1 < W5.heap.size ∧ W3.heap.size ≤ W5.heap.size from
        ⟨hk4.grow hg5, hr5, (hkb ob hz.1 hz.2.1).trans H3.out.2.1, (hkb ab hz.2.2.1 hz.2.2.2.1).trans H3.out.2.2.1, (hkb bb hz.2.2.2.2.1 hz.2.2.2.2.2.1).trans H3.out.2.2.2.1, hm5, by have := hs4.size; omega, HJ.out.1.rk.box.lt, hm5.lt, by have := hs4.size; have := hg5.size; omega⟩)
      clear hk4 hs4 hm5 hg5 hr5 hkb hz HCA
      have qq := H5.out.2.2.1
      have f0 := qq.cell 0
      have f1 := qq.cell 1
      have f2 := qq.cell 2
      have f3 := qq.cell 3
      have f4 := qq.cell 4
      have f5 := qq.cell 5
      have f6 := qq.cell 6
      simp only [List.getElem?_toArray, List.getElem?_cons_zero, List.getElem?_cons_succ] at f0 f1 f2 f3 f4 f5 f6
      clear qq
      have HCB := Lib.hid (show ∀ W, RkAt W q AR cR L → Calls Try.prog 21 #[.pointer (some ⟨q, 0, none⟩), .agg #[.int .i64 q0, .int .i64 q1, .string ⟨q2.toArray⟩, .int .i64 q3, .int .i64 q4]] W fun e w' => e = .returned (.tuple #[.agg #[.int .i64 v0, .int .i64 v1, .string ⟨v2.toArray⟩, .int .i64 v3, .int .i64 v4], .bool s]) ∧ RkTo W q AR (kputL ⟨q0, q1, q2, q3, q4⟩ L) w' from fun W h => by
        rw [← HPL.out]
        exact (rkput_any h (by have := HJ.out.2; omega) ⟨q0, q1, q2, q3, q4⟩).mono fun e w' ⟨h1, h2⟩ => ⟨by rw [h1]; exact congrArg (fun x => Ending.returned (plTo x)) HX0.out, h2⟩)
      go_wp2_with (first | rw [hW5] | fail)
      clear hW5 hr1 f0 f1 f2 f3 f4 f5 f6
      refine (HCB.out W5 H5.out.2.1).mono ?_
      rintro e w6 ⟨rfl, A6, cc6, hr6, hs6, ha6⟩
      have hm7 := Whole.made w6 32 #[.int .i64 v0, .int .i64 v1, .string ⟨v2.toArray⟩, .int .i64 v3, .int .i64 v4]
      have hg7 := grows_alloc w6 (.cells #[.int .i64 v0, .int .i64 v1, .string ⟨v2.toArray⟩, .int .i64 v3, .int .i64 v4] 32)
      obtain ⟨W7, hW7⟩ : ∃ W, w6.alloc (.cells #[.int .i64 v0, .int .i64 v1, .string ⟨v2.toArray⟩, .int .i64 v3, .int .i64 v4] 32) = W := ⟨_, rfl⟩
      rw [hW7] at hm7 hg7
      obtain ⟨r2, hr2⟩ : ∃ b, w6.heap.size = b := ⟨_, rfl⟩
      rw [hr2] at hm7
      have hlow : ∀ k, k < W5.heap.size → k ≠ q → W7.heap[k]? = W5.heap[k]? := fun k h1 h2 => (hg7.block k (by have := hs6.size; omega)).trans (hs6.same k h1 h2)
      obtain ⟨hz1, hz2, hz3, hz4⟩ := H5.out.2.2.2.2.2.2
      have hz := H3.out.2.2.2.2
      have hma : Whole W7 ab 32 #[.int .i64 0, .int .i64 0, .string ⟨#[]⟩, .int .i64 0, .int .i64 0] := (hlow ab (by omega) (by omega)).trans H5.out.2.2.2.1
      have hmb : Whole W7 bb 32 #[.int .i64 0, .int .i64 0, .string ⟨#[]⟩, .int .i64 0, .int .i64 0] := (hlow bb (by omega) (by omega)).trans H5.out.2.2.2.2.1
      have hmr : Whole W7 r1 32 #[.int .i64 v0, .int .i64 v1, .string ⟨v2.toArray⟩, .int .i64 v3, .int .i64 v4] := (hlow r1 (by omega) (by omega)).trans H5.out.2.2.2.2.2.1
      have hmo : Whole W7 ob 34 #[.int .i64 qw, .int .i64 q0, .int .i64 q1, .string ⟨q2.toArray⟩, .int .i64 q3, .int .i64 q4, .int .i64 qn] := (hlow ob (by omega) (by omega)).trans H5.out.2.2.1
      have hrl : W5.heap.size ≤ r2 := by have := hs6.size; omega
      obtain ⟨W8, hW8⟩ : ∃ W, W7.setRow ab #[.int .i64 v0, .int .i64 v1, .string ⟨v2.toArray⟩, .int .i64 v3, .int .i64 v4] = W := ⟨_, rfl⟩
      have hs8 : Spares (fun k => k = ab) W7 W8 := by rw [← hW8]; exact spares_row _ _ _
      have hma8 : Whole W8 ab 32 #[.int .i64 v0, .int .i64 v1, .string ⟨v2.toArray⟩, .int .i64 v3, .int .i64 v4] := by rw [← hW8]; exact hma.rowed _
      have hmb8 : Whole W8 bb 32 #[.int .i64 0, .int .i64 0, .string ⟨#[]⟩, .int .i64 0, .int .i64 0] := (hs8.same bb hmb.lt (by omega)).trans hmb
      have hmr8 : Whole W8 r2 32 #[.int .i64 v0, .int .i64 v1, .string ⟨v2.toArray⟩, .int .i64 v3, .int .i64 v4] := (hs8.same r2 hm7.lt (by omega)).trans hm7
      obtain ⟨W9, hW9⟩ : ∃ W, W8.setRow bb #[.int .i64 v0, .int .i64 v1, .string ⟨v2.toArray⟩, .int .i64 v3, .int .i64 v4] = W := ⟨_, rfl⟩
      have hs9 : Spares (fun k => k = bb) W8 W9 := by rw [← hW9]; exact spares_row _ _ _
      have hmb9 : Whole W9 bb 32 #[.int .i64 v0, .int .i64 v1, .string ⟨v2.toArray⟩, .int .i64 v3, .int .i64 v4] := by rw [← hW9]; exact hmb8.rowed _
      have hma9 : Whole W9 ab 32 #[.int .i64 v0, .int .i64 v1, .string ⟨v2.toArray⟩, .int .i64 v3, .int .i64 v4] := (hs9.same ab hma8.lt (by omega)).trans hma8
      have hs79 : Spares (fun k => k = ab ∨ k = bb) w6 W9 := ((Spares.grows hg7).trans (hs8.wider fun k _ e => .inl e)).trans (hs9.wider fun k _ e => .inr e)
      have hr9 : RkAt W9 q A6 cc6 (kputL ⟨q0, q1, q2, q3, q4⟩ L) := by
        refine ((hr6.off hs79 (by omega) fun ad e e2 => ?_))
        have := hr6.apart ad e
        rcases ha6 with h | h
        · have h2 := HJ.out.1.rk.apart ad (h ▸ e)
          omega
        · have h2 := h ad e
          omega
      have HAB := Lib.hid (And.intro hma hmb8)
      have KT := Lib.hid (show Two w.heap.size w W9 d q A6 cc6 (kputL ⟨q0, q1, q2, q3, q4⟩ L) ∧ Whole W9 ab 32 #[.int .i64 v0, .int .i64 v1, .string ⟨v2.toArray⟩, .int .i64 v3, .int .i64 v4] ∧ Whole W9 bb 32 #[.int .i64 v0, .int .i64 v1, .string ⟨v2.toArray⟩, .int .i64 v3, .int .i64 v4] ∧ (kputL ⟨q0, q1, q2, q3, q4⟩ L).length ≤ i + 1 ∧ i < 300 ∧ i < n from
        ⟨Two.end_ H5.out.1 HJ.out.1.le hs6 hr9 hr6 ha6 hs79 ⟨hz.2.2.1, hz.2.2.2.1⟩ ⟨hz.2.2.2.2.1, hz.2.2.2.2.2.1⟩ (by have := HJ.out.1.ks.size; omega), hma9, hmb9, by have := putL_len ⟨q0, q1, q2, q3, q4⟩ L; have := HJ.out.2; omega, by omega, by omega⟩)
      have qq := hmr
      have g0 := qq.cell 0
      have g1 := qq.cell 1
      have g2 := qq.cell 2
      have g3 := qq.cell 3
      have g4 := qq.cell 4
      simp only [List.getElem?_toArray, List.getElem?_cons_zero, List.getElem?_cons_succ] at g0 g1 g2 g3 g4
      clear qq
      have qq := hmr8
      have h0 := qq.cell 0
      have h1 := qq.cell 1
      have h2 := qq.cell 2
      have h3 := qq.cell 3
      have h4 := qq.cell 4
      simp only [List.getElem?_toArray, List.getElem?_cons_zero, List.getElem?_cons_succ] at h0 h1 h2 h3 h4
      clear qq
      clear hr6 hs6 ha6 hm7 hg7 hlow hz1 hz2 hz3 hz4 hz hma hmb hmr hmo hrl hs8 hma8 hmb8 hmr8 hs9 hmb9 hma9 hs79 hr9 HCB
      obtain ⟨m, hm⟩ : ∃ m, (kputL ⟨q0, q1, q2, q3, q4⟩ L).length = m := ⟨_, rfl⟩
      have HLL := Lib.hid (show (kputL ⟨q0, q1, q2, q3, q4⟩ L).length = m ∧ m ≤ 301 from ⟨hm, by have := KT.out.2.2.2; omega⟩)
      clear hm
      have HPA := Lib.hid (show ∀ w', Grows W9 w' → Whole w' ab 32 #[.int .i64 v0, .int .i64 v1, .string ⟨v2.toArray⟩, .int .i64 v3, .int .i64 v4] from fun w' hg => hg.whole KT.out.2.1)
      have HPB := Lib.hid (show ∀ w', Grows W9 w' → Whole w' bb 32 #[.int .i64 v0, .int .i64 v1, .string ⟨v2.toArray⟩, .int .i64 v3, .int .i64 v4] from fun w' hg => hg.whole KT.out.2.2.1)
      have HMA := Lib.hid (show ∀ w', Grows W9 w' → Calls Try.prog 22 #[.pointer (some ⟨d, 0, none⟩)] w' fun e w'' => e = .returned (.int .i64 (m : Int)) ∧ Grows w' w'' from fun w' hg => (many_at (KT.out.1.grow hg).ks (by have := HLL.out; omega) HLL.out.1).mono fun e w'' ⟨h1, h2⟩ => ⟨h1, h2 ▸ Grows.refl _⟩)
      have HMB := Lib.hid (show ∀ w', Grows W9 w' → Calls Try.prog 23 #[.pointer (some ⟨q, 0, none⟩)] w' fun e w'' => e = .returned (.int .i64 (m : Int)) ∧ Grows w' w'' from fun w' hg => rkmany_any (KT.out.1.grow hg).rk HLL.out.1)
      have HLA := Lib.hid (show ∀ w', Grows W9 w' → Calls Try.prog 24 #[.pointer (some ⟨d, 0, none⟩)] w' fun e w'' => ∃ (A3 : Option Addr) (c3 : Nat), e = .returned (.slice A3 m c3) ∧ Grows w' w'' ∧ Row w'' w''.heap.size A3 m (((kputL ⟨q0, q1, q2, q3, q4⟩ L).map fun p : Pl => p.key).map kS) from fun w' hg => (list_at (KT.out.1.grow hg).ks (by have := HLL.out; omega) rfl).mono fun e w'' ⟨A3, n3, c3, h2, h3, h4⟩ => by
        have hl3 := OwnS.len h3
        rw [List.length_map, HLL.out.1] at hl3
        subst hl3
        exact ⟨A3, c3, h2, h4, Row.owned h3⟩)
      have HLB := Lib.hid (show ∀ w', Grows W9 w' → Calls Try.prog 25 #[.pointer (some ⟨q, 0, none⟩)] w' fun e w'' => ∃ (A3 : Option Addr) (c3 : Nat), e = .returned (.slice A3 m c3) ∧ Grows w' w'' ∧ Row w'' w''.heap.size A3 m (((kputL ⟨q0, q1, q2, q3, q4⟩ L).map fun p : Pl => p.key).map kS) from fun w' hg => (rklist_any (KT.out.1.grow hg).rk (by have := HLL.out; omega)).mono fun e w'' ⟨A3, n3, c3, h2, h3, h4⟩ => by
        have hl3 := OwnS.len h3
        rw [List.length_map, HLL.out.1] at hl3
        subst hl3
        exact ⟨A3, c3, h2, h4, Row.owned h3⟩)
      have HSN := Lib.hid (show ∀ w' (A3 : Option Addr) (c3 : Nat) (A4 : Option Addr) (c4 : Nat), Row w' w'.heap.size A3 m (((kputL ⟨q0, q1, q2, q3, q4⟩ L).map fun p : Pl => p.key).map kS) → Row w' w'.heap.size A4 m (((kputL ⟨q0, q1, q2, q3, q4⟩ L).map fun p : Pl => p.key).map kS) → Calls Try.prog 17 #[.slice A3 m c3, .slice A4 m c4] w' fun e w'' => e = .returned (.bool true) ∧ Grows w' w'' from fun w' A3 c3 A4 c4 hr hr2 => by
        have h5 := ksame_names A3 m c3 A4 m c4 ((kputL ⟨q0, q1, q2, q3, q4⟩ L).map fun p : Pl => p.key) ((kputL ⟨q0, q1, q2, q3, q4⟩ L).map fun p : Pl => p.key) w' hr hr2 (by have := HLL.out; omega)
        rw [show decide (((kputL ⟨q0, q1, q2, q3, q4⟩ L).map fun p : Pl => p.key) = ((kputL ⟨q0, q1, q2, q3, q4⟩ L).map fun p : Pl => p.key)) = true from decide_eq_true rfl] at h5
        exact h5)
      have hzz : ((s : Bool) != s) = false := by first | rfl | simp
      have qq := KT.out.2.1
      have a0 := qq.cell 0
      have a1 := qq.cell 1
      have a2 := qq.cell 2
      have a3 := qq.cell 3
      have a4 := qq.cell 4
      simp only [List.getElem?_toArray, List.getElem?_cons_zero, List.getElem?_cons_succ] at a0 a1 a2 a3 a4
      clear qq
      have qq := KT.out.2.2.1
      have b0 := qq.cell 0
      have b1 := qq.cell 1
      have b2 := qq.cell 2
      have b3 := qq.cell 3
      have b4 := qq.cell 4
      simp only [List.getElem?_toArray, List.getElem?_cons_zero, List.getElem?_cons_succ] at b0 b1 b2 b3 b4
      clear qq
      have heq := HEQ.out
      go_wp2_with (first
        | rw [hW7]
        | (refine wpList_store_row rfl 32 _ _ rfl ab #[.int .i64 v0, .int .i64 v1, .string ⟨v2.toArray⟩, .int .i64 v3, .int .i64 v4] rfl rfl 32 _ HAB.out.1 sizePl rfl (plV_one _ _ _ _ _) ?_; rw [hW8])
        | (refine wpList_store_row rfl 32 _ _ rfl bb #[.int .i64 v0, .int .i64 v1, .string ⟨v2.toArray⟩, .int .i64 v3, .int .i64 v4] rfl rfl 32 _ HAB.out.2 sizePl rfl (plV_one _ _ _ _ _) ?_; rw [hW9])
        | fail)
      clear hW7 hW8 hW9 hr2 g0 g1 g2 g3 g4 h0 h1 h2 h3 h4
      clear a0 a1 a2 a3 a4 b0 b1 b2 b3 b4 heq hzz
      refine (HMA.out W9 (Grows.refl _)).mono ?_
      rintro e wa ⟨rfl, hga⟩
      have G1 := Lib.hid hga
      clear hga
      go_wp2_with (fail)
      refine (HMB.out wa G1.out).mono ?_
      rintro e wb ⟨rfl, hgb⟩
      have G2 := Lib.hid (Grows.trans G1.out hgb)
      clear hgb
      go_wp2_with (fail)
      refine (HLA.out wb G2.out).mono ?_
      rintro e wc ⟨AL1, cl1, rfl, hgc, hrow1⟩
      have G3 := Lib.hid (And.intro (Grows.trans G2.out hgc) hrow1)
      clear hgc hrow1
      go_wp2_with (fail)
      refine (HLB.out wc G3.out.1).mono ?_
      rintro e wd ⟨AL2, cl2, rfl, hgd, hrow2⟩
      have HS := Lib.hid (HSN.out wd AL1 cl1 AL2 cl2 (hgd.row G3.out.2) hrow2)
      have G4 := Lib.hid (Grows.trans G3.out.1 hgd)
      clear hgd hrow2
      go_wp2_with (fail)
      refine HS.out.mono ?_
      rintro e wz ⟨rfl, hgz⟩
      have HCwz := Lib.hid (Grows.trans G4.out hgz)
      clear hgz
      go_wp2_with (fail)
      go_roundw
      case rel => exact ⟨i + 1, kputL ⟨q0, q1, q2, q3, q4⟩ L, A6, cc6, by have := KT.out.2.2.2; omega, by first | rfl | go_num, Lib.hid ⟨KT.out.1.grow HCwz.out, KT.out.2.2.2.1⟩⟩
      case measure => simp [intOf]; omega
    · obtain rfl : i = n := by omega
      go_wp2_with (fail)
      go_ret
      exact ⟨rfl, HJ0.out.1.ks.low⟩

set_option maxRecDepth 100000 in
theorem keysPlays_lifted (os : Os) (started : os.Started) (H : Type) (enc : TypeId × Value → H) :
    ReturnsInHanded {} Try.checked os 3 .any (Rows.keysPlaysSpec.pre6 enc Try.prog Try.f3 Rows.keysPlaysRow.domain false) (Rows.keysPlaysSpec.post enc Try.prog Try.f3 false true false false) := by
  refine lift_law (C := Try.checked) H enc own started (by kernel_rfl) Try.func3
    (ChangeSpec.witness6 (enc := enc) (C := Try.checked) false ⟨#[], #[.slice none 0 0], []⟩ 16 (by kernel_rfl) (by kernel_rfl) (by kernel_rfl) (by kernel_rfl))
    laidOut (of_readable (by kernel_rfl)) rfl Try.underlying4 rfl (fun ds hd => ?_) (fun W base args ds p hval hA hsz => ?_)
  · match ds, hd with
    | [d1], _ => rfl
  · rw [Try.params3] at hA hval hsz
    obtain ⟨v0, vs0, d0, ds0, p0, q0, hargs, rfl, rfl, h0, r0⟩ := trodAll_cons hA
    obtain ⟨rfl, rfl, rfl⟩ := trodAll_nil r0
    obtain rfl : args = #[v0] := by cases args; simp_all
    obtain ⟨A0, n0, c0, xs0, rfl, hx0⟩ := open_ops13 (hval 0 22 v0 rfl rfl) h0
    exact keysPlays_law W A0 n0 c0 xs0 hx0

theorem keysPlays_over : Rows.keysPlaysRow.holds Try.pinned (OpenSpec.ofChange Rows.keysPlaysSpec) :=
  OpenClaim.holds_of_wide 3 Try.f3 rfl rfl rfl rfl rfl rfl rfl ⟨rfl, rfl, rfl, rfl, rfl⟩ rfl rfl rfl rfl rfl (by kernel_rfl) Try.func3 (by kernel_rfl)
    (of_decide_eq_true (by kernel_rfl)) (by unfold Func.isWrapper; first | (rw [if_pos (by decide +kernel)]; kernel_rfl) | (rw [if_neg (by decide +kernel)]; exact ⟨rfl, rfl⟩))
    (fun os started H enc _ => keysPlays_lifted os started H enc)
theorem keysPlays_holds : Rows.KeysPlaysSaid := keysPlays_over
end Go.Proofs.Ytadgbobemmfjoaa