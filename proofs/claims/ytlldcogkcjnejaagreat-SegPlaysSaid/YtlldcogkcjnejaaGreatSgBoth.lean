import Derived.Test.YtlldcogkcjnejaaGreatMG29
import Derived.Test.YtlldcogkcjnejaaGreatMG31
import Derived.Test.YtlldcogkcjnejaaGreatSgRGet
import Derived.Test.YtlldcogkcjnejaaGreatSgRAll
import Derived.Test.YtlldcogkcjnejaaGreatSgGreat
import Derived.Test.YtlldcogkcjnejaaGreatSgName
import Derived.Test.YtlldcogkcjnejaaGreatRcSame
import Derived.Test.YtlldcogkcjnejaaGreatSgSame
import Derived.Test.YtlldcogkcjnejaaGreatMG03
import Derived.Test.YtlldcogkcjnejaaGreatMG04
set_option linter.unusedSimpArgs false
namespace Go.Proofs.YtlldcogkcjnejaaGreat
open Go.Lib (hid)
open Go.RowKit
def o9on (o : O9) (m : Dk) : Dk :=
 if o.what = 0 then (makeQ m o.n).1 else if o.what = 1 ∨ o.what = 2 ∨ o.what = 3 then (addP m o.n o.x).1 else if o.what = 6 then m.setFail o.at' else if o.what = 7 then m.setCut o.at'
 else if o.what = 8 then m.boot o.at' o.bytes else if o.what = 9 then (m.flip (nmL o.n) o.at' o.bits.toNat).1 else if o.what = 10 then m.syncDir.1 else if o.what = 11 then (m.sync (nmL o.n)).1 else m
theorem Zqw (y : Rc) : (frS y).length ≤ y.b.length + y.key.length + 10 * y.locs.length + 21 := by
 have h : (putR y).length ≤ y.b.length + y.key.length + 10 * y.locs.length + 13 := by
  by_cases hr : Zx y
  ·have h1 := Zi4 hr
   split at h1
   ·omega
   ·split at h1
    ·omega
    ·split at h1 <;> omega
  ·rw [Zgk hr]; simp
 unfold frS putB
 split
 ·rw [Za5]; omega
 ·simp
theorem Zh8 {r : Rc} (h : Zx r) : r.locs.length ≤ 1000000 := by
 have h1 := Zi4 h
 have h2 := Zej r
 rcases h with h | h | h | h
 ·have := h.2; unfold Jf at this; simp_all
 ·rw [if_pos h.1] at h1
  omega
 ·have h1 : r.locs.length = 0 := h.2.1.2.2.2
  omega
 ·have h1 : r.locs.length = 0 := h.2.1.2.2.2
  omega
theorem Zgp (bs : List UInt8) : (rcOf bs).locs.length ≤ 1000000 := by
 unfold rcOf
 cases h : getR bs with
 | none => exact Nat.zero_le _
 | some r => exact Zh8 (Zi3 h).1
theorem Zlk (m : Dk) (n a : Int) : (getP m n a).1.locs.length ≤ 1000000 := by
 unfold getP
 split
 ·split
  ·split
   ·exact Zgp _
   ·exact Nat.zero_le _
  ·exact Nat.zero_le _
 ·exact Nat.zero_le _
theorem Zgq {K : Nat} {m : Dk} {x : Rf} (hG : G2 K m x) (hK : K ≤ 100000) (n : Int) : (Jg m n).1.length ≤ 1000000 ∧ ∀ f ∈ (Jg m n).1, f.2.2.locs.length ≤ 1000000 := by
 unfold Jg
 split
 ·rename_i h0
  split
  ·obtain ⟨bs, e, hl⟩ := Za4 h0
   have hs := hG.sized (nmS n)
   rw [e]
   show (fnsP ((allB bs 0).1.drop 1)).length ≤ 1000000 ∧ ∀ f ∈ fnsP ((allB bs 0).1.drop 1), f.2.2.locs.length ≤ 1000000
   refine ⟨?_, fun f hf => ?_⟩
   ·have h1 := (Zh6 bs (by omega)).1
    unfold fnsP
    rw [List.length_map]
    refine Nat.le_trans (List.length_filter_le _ _) ?_
    rw [List.length_drop]
    omega
   ·unfold fnsP at hf
    obtain ⟨t, _, rfl⟩ := List.mem_map.1 hf
    exact Zgp _
  ·exact ⟨Nat.zero_le _, fun f hf => by cases hf⟩
 ·exact ⟨Nat.zero_le _, fun f hf => by cases hf⟩
section
variable {d r K : Nat} {w0 w w' : World} {out : Nat → Prop} {m : Dk} {x : Rf}
set_option maxHeartbeats 16000000 in
set_option maxRecDepth 100000 in
theorem Zll (w : World) (h : Two w0.heap.size w0 w d r out m x) (hG : G2 K m x) (hK : K + 9000 ≤ 100000) (o : O9) (p : P9) (hat : O9At w0 o p) (hn : o9len o ≤ 20000) :
 Calls Tryz.prog 8 #[.pointer (some ⟨d, 0, none⟩), .pointer (some ⟨r, 0, none⟩), .agg (o9V o p).toArray] w fun e w' => e = .returned (.bool true) ∧ (∃ x', Two w0.heap.size w0 w' d r out (o9on o m) x' ∧ G2 (K + o9len o + 40) (o9on o m) x') ∧ Stays w0.heap.size out w w' := by
 obtain ⟨z, hz⟩ : ∃ z : Nat, o.bits = (z : Int) := ⟨o.bits.toNat, by have := hat.bits; omega⟩
 have HFS := hid (Zqw o.x)
 have HLN := hid (show o.x.b.length + o.x.key.length + 10 * o.x.locs.length ≤ o9len o by unfold o9len; omega)
 obtain ⟨what, nn, y, aa, bytes, bits⟩ := o
 obtain ⟨LA, ln, lc, BA, bn, bc, IA, im, ic⟩ := p
 dsimp only at hz HFS HLN
 subst hz
 obtain ⟨ol, hol⟩ : ∃ ol, o9len (⟨what, nn, y, aa, bytes, (z : Int)⟩ : O9) = ol := ⟨_, rfl⟩
 rw [hol] at HLN hn ⊢
 have hag : (o9V (⟨what, nn, y, aa, bytes, (z : Int)⟩ : O9) (⟨LA, ln, lc, BA, bn, bc, IA, im, ic⟩ : P9)).toArray = #[.int .i64 what, .int .i64 nn, .int .i64 y.kind, .string ⟨y.key.toArray⟩, .int .i64 y.id, .int .i64 y.no, .int .i64 y.size, .slice LA ln lc, .slice BA bn bc, .int .i64 aa, .slice IA im ic, .int .u32 (z : Int)] := rfl
 rw [hag]
 have HAT := hid hat
 have HZB := hid (show z < 4294967296 by have := hat.bits; try dsimp only at this; omega)
 have HG := hid (And.intro hG hK)
 have hga := Zb w (.cells #[.int .i64 what, .int .i64 nn, .int .i64 y.kind, .string ⟨y.key.toArray⟩, .int .i64 y.id, .int .i64 y.no, .int .i64 y.size, .slice LA ln lc, .slice BA bn bc, .int .i64 aa, .slice IA im ic, .int .u32 (z : Int)] 37)
 have hm0 := Whole.made w 37 #[.int .i64 what, .int .i64 nn, .int .i64 y.kind, .string ⟨y.key.toArray⟩, .int .i64 y.id, .int .i64 y.no, .int .i64 y.size, .slice LA ln lc, .slice BA bn bc, .int .i64 aa, .slice IA im ic, .int .u32 (z : Int)]
 have ht1 : Two w0.heap.size w0 (w.alloc (.cells #[.int .i64 what, .int .i64 nn, .int .i64 y.kind, .string ⟨y.key.toArray⟩, .int .i64 y.id, .int .i64 y.no, .int .i64 y.size, .slice LA ln lc, .slice BA bn bc, .int .i64 aa, .slice IA im ic, .int .u32 (z : Int)] 37)) d r (fun k => out k ∨ k = w.heap.size) m x := (h.more hga).less fun k hk => hk.imp id fun e => by rw [World.size_alloc]; omega
 obtain ⟨w1, hw1⟩ : ∃ q, w.alloc (.cells #[.int .i64 what, .int .i64 nn, .int .i64 y.kind, .string ⟨y.key.toArray⟩, .int .i64 y.id, .int .i64 y.no, .int .i64 y.size, .slice LA ln lc, .slice BA bn bc, .int .i64 aa, .slice IA im ic, .int .u32 (z : Int)] 37) = q := ⟨_, rfl⟩
 rw [hw1] at hm0 ht1 hga
 have HT1 := hid ht1
 have HBX := hid hm0
 have HS1 := hid (show Stays w0.heap.size out w w1 from Stays.grows hga)
 have u0 := hm0.cell 0
 have u1 := hm0.cell 1
 have u2 := hm0.cell 2
 have u3 := hm0.cell 3
 have u4 := hm0.cell 4
 have u5 := hm0.cell 5
 have u6 := hm0.cell 6
 have u7 := hm0.cell 7
 have u8 := hm0.cell 8
 have u9 := hm0.cell 9
 have u10 := hm0.cell 10
 have u11 := hm0.cell 11
 simp only [Gt] at u0 u1 u2 u3 u4 u5 u6 u7 u8 u9 u10 u11
 clear hga hm0 ht1 hat hag hol h hG
 unfold o9on
 dsimp only [Int.toNat_natCast]
 by_cases h0 : what = 0
 ·subst h0
  simp only [show ¬ ((0 : Int) = 1) by omega, show ¬ ((0 : Int) = 2) by omega, show ¬ ((0 : Int) = 3) by omega, show ¬ ((0 : Int) = 4) by omega, show ¬ ((0 : Int) = 5) by omega, show ¬ ((0 : Int) = 6) by omega, show ¬ ((0 : Int) = 7) by omega, show ¬ ((0 : Int) = 8) by omega, show ¬ ((0 : Int) = 9) by omega, show ¬ ((0 : Int) = 10) by omega, show ¬ ((0 : Int) = 11) by omega, if_true, if_false, reduceIte, or_false, false_or, or_true, true_or, or_self]
  obtain ⟨⟨m1, v1⟩, hsp⟩ : ∃ q, makeQ m nn = q := ⟨_, rfl⟩
  rw [hsp]
  have HSP := hid hsp
  have HD := hid (HT1.out.dop (v := .returned (.int .i64 v1)) (m' := m1) fun out' ho h => (Zgr w1 nn h HG.out.1.ok (by omega)).mono fun e w' hh => by rw [HSP.out] at hh; exact hh)
  clear hsp
  go_enter Tryz.func8, Tryz.ntmps8
  go_wp2_with (fail)
  refine HD.out.mono ?_
  rintro e w2 ⟨rfl, ht2, hs2⟩
  have hbx := HBX.out.same (hs2.same _ HBX.out.lt fun e => e.2 (.inr rfl))
  clear u0 u1 u2 u3 u4 u5 u6 u7 u8 u9 u10 u11
  have r0 := hbx.cell 0
  have r1 := hbx.cell 1
  have r2 := hbx.cell 2
  have r3 := hbx.cell 3
  have r4 := hbx.cell 4
  have r5 := hbx.cell 5
  have r6 := hbx.cell 6
  have r7 := hbx.cell 7
  have r8 := hbx.cell 8
  have r9 := hbx.cell 9
  have r10 := hbx.cell 10
  have r11 := hbx.cell 11
  simp only [Gt] at r0 r1 r2 r3 r4 r5 r6 r7 r8 r9 r10 r11
  have hrs := Zj6 ht2 HG.out.1 (by omega) nn HAT.out.n
  rw [HSP.out] at hrs
  have HR := hid hrs
  have HS2 := hid (HS1.out.trans (hs2.wider fun k _ hk => ⟨hk.1, fun e => hk.2 (.inl e)⟩))
  clear hs2 hbx HD hrs ht2
  go_wp2_with (fail)
  refine HR.out.mono ?_
  rintro e w3 ⟨rfl, ⟨x1, ht3, hg3⟩, hs3⟩
  dsimp only at hg3
  have HT3 := hid (And.intro ht3 (And.intro hg3 (HS2.out.trans (hs3.wider fun k _ hk => ⟨hk.1, fun e => hk.2 (.inl e)⟩))))
  clear ht3 hs3 hg3 HR HSP HS2
  try dsimp only
  go_wp2_with (fail)
  go_ret
  exact ⟨by simp, ⟨_, HT3.out.1.less fun k hk => .inl hk, HT3.out.2.1.mono (by omega)⟩, HT3.out.2.2⟩
 by_cases h1 : what = 1
 ·subst h1
  simp only [show ¬ ((1 : Int) = 0) by omega, show ¬ ((1 : Int) = 2) by omega, show ¬ ((1 : Int) = 3) by omega, show ¬ ((1 : Int) = 4) by omega, show ¬ ((1 : Int) = 5) by omega, show ¬ ((1 : Int) = 6) by omega, show ¬ ((1 : Int) = 7) by omega, show ¬ ((1 : Int) = 8) by omega, show ¬ ((1 : Int) = 9) by omega, show ¬ ((1 : Int) = 10) by omega, show ¬ ((1 : Int) = 11) by omega, if_true, if_false, reduceIte, or_false, false_or, or_true, true_or, or_self]
  obtain ⟨⟨m1, a1, b1, e1⟩, hsp⟩ : ∃ q, addP m nn y = q := ⟨_, rfl⟩
  rw [hsp]
  have HSP := hid hsp
  have HD := hid (HT1.out.dop (v := .returned (.tuple #[.int .i64 a1, .int .i64 b1, .int .i64 e1])) (m' := m1) fun out' ho h => (Zax w1 nn y (HAT.out.x.grow HT1.out.low) h HG.out.1.ok (by omega)).mono fun e w' hh => by rw [HSP.out] at hh; exact hh)
  clear hsp
  go_enter Tryz.func8, Tryz.ntmps8
  go_wp2_with (fail)
  refine HD.out.mono ?_
  rintro e w2 ⟨rfl, ht2, hs2⟩
  have hbx := HBX.out.same (hs2.same _ HBX.out.lt fun e => e.2 (.inr rfl))
  clear u0 u1 u2 u3 u4 u5 u6 u7 u8 u9 u10 u11
  have r0 := hbx.cell 0
  have r1 := hbx.cell 1
  have r2 := hbx.cell 2
  have r3 := hbx.cell 3
  have r4 := hbx.cell 4
  have r5 := hbx.cell 5
  have r6 := hbx.cell 6
  have r7 := hbx.cell 7
  have r8 := hbx.cell 8
  have r9 := hbx.cell 9
  have r10 := hbx.cell 10
  have r11 := hbx.cell 11
  simp only [Gt] at r0 r1 r2 r3 r4 r5 r6 r7 r8 r9 r10 r11
  have hrs := Zen ht2 HG.out.1 y (by have := Zbq y; omega) nn HAT.out.x
  rw [HSP.out] at hrs
  have HR := hid hrs
  have HS2 := hid (HS1.out.trans (hs2.wider fun k _ hk => ⟨hk.1, fun e => hk.2 (.inl e)⟩))
  clear hs2 hbx HD hrs ht2
  go_wp2_with (fail)
  refine HR.out.mono ?_
  rintro e w3 ⟨rfl, ⟨x1, ht3, hg3⟩, hs3⟩
  dsimp only at hg3
  have HT3 := hid (And.intro ht3 (And.intro hg3 (HS2.out.trans (hs3.wider fun k _ hk => ⟨hk.1, fun e => hk.2 (.inl e)⟩))))
  clear ht3 hs3 hg3 HR HSP HS2
  try dsimp only
  go_wp2_with (fail)
  go_ret
  exact ⟨by simp, ⟨_, HT3.out.1.less fun k hk => .inl hk, HT3.out.2.1.mono (by have := HFS.out; have := HLN.out; omega)⟩, HT3.out.2.2⟩
 by_cases h2 : what = 2
 ·subst h2
  simp only [show ¬ ((2 : Int) = 0) by omega, show ¬ ((2 : Int) = 1) by omega, show ¬ ((2 : Int) = 3) by omega, show ¬ ((2 : Int) = 4) by omega, show ¬ ((2 : Int) = 5) by omega, show ¬ ((2 : Int) = 6) by omega, show ¬ ((2 : Int) = 7) by omega, show ¬ ((2 : Int) = 8) by omega, show ¬ ((2 : Int) = 9) by omega, show ¬ ((2 : Int) = 10) by omega, show ¬ ((2 : Int) = 11) by omega, if_true, if_false, reduceIte, or_false, false_or, or_true, true_or, or_self]
  obtain ⟨⟨m1, a1, b1, e1⟩, hsp⟩ : ∃ q, addP m nn y = q := ⟨_, rfl⟩
  rw [hsp]
  have HSP := hid hsp
  have HD := hid (HT1.out.dop (v := .returned (.tuple #[.int .i64 a1, .int .i64 b1, .int .i64 e1])) (m' := m1) fun out' ho h => (Zax w1 nn y (HAT.out.x.grow HT1.out.low) h HG.out.1.ok (by omega)).mono fun e w' hh => by rw [HSP.out] at hh; exact hh)
  clear hsp
  go_enter Tryz.func8, Tryz.ntmps8
  go_wp2_with (fail)
  refine HD.out.mono ?_
  rintro e w2 ⟨rfl, ht2, hs2⟩
  have hbx := HBX.out.same (hs2.same _ HBX.out.lt fun e => e.2 (.inr rfl))
  clear u0 u1 u2 u3 u4 u5 u6 u7 u8 u9 u10 u11
  have r0 := hbx.cell 0
  have r1 := hbx.cell 1
  have r2 := hbx.cell 2
  have r3 := hbx.cell 3
  have r4 := hbx.cell 4
  have r5 := hbx.cell 5
  have r6 := hbx.cell 6
  have r7 := hbx.cell 7
  have r8 := hbx.cell 8
  have r9 := hbx.cell 9
  have r10 := hbx.cell 10
  have r11 := hbx.cell 11
  simp only [Gt] at r0 r1 r2 r3 r4 r5 r6 r7 r8 r9 r10 r11
  have hrs := Zen ht2 HG.out.1 y (by have := Zbq y; omega) nn HAT.out.x
  rw [HSP.out] at hrs
  have HR := hid hrs
  have HS2 := hid (HS1.out.trans (hs2.wider fun k _ hk => ⟨hk.1, fun e => hk.2 (.inl e)⟩))
  clear hs2 hbx HD hrs ht2
  go_wp2_with (fail)
  refine HR.out.mono ?_
  rintro e w3 ⟨rfl, ⟨x1, ht3, hg3⟩, hs3⟩
  dsimp only at hg3
  have HT3 := hid (And.intro ht3 (And.intro hg3 (HS2.out.trans (hs3.wider fun k _ hk => ⟨hk.1, fun e => hk.2 (.inl e)⟩))))
  clear ht3 hs3 hg3 HR HSP HS2
  try dsimp only
  go_wp2_with (fail)
  go_ret
  exact ⟨by simp, ⟨_, HT3.out.1.less fun k hk => .inl hk, HT3.out.2.1.mono (by have := HFS.out; have := HLN.out; omega)⟩, HT3.out.2.2⟩
 by_cases h3 : what = 3
 ·subst h3
  simp only [show ¬ ((3 : Int) = 0) by omega, show ¬ ((3 : Int) = 1) by omega, show ¬ ((3 : Int) = 2) by omega, show ¬ ((3 : Int) = 4) by omega, show ¬ ((3 : Int) = 5) by omega, show ¬ ((3 : Int) = 6) by omega, show ¬ ((3 : Int) = 7) by omega, show ¬ ((3 : Int) = 8) by omega, show ¬ ((3 : Int) = 9) by omega, show ¬ ((3 : Int) = 10) by omega, show ¬ ((3 : Int) = 11) by omega, if_true, if_false, reduceIte, or_false, false_or, or_true, true_or, or_self]
  obtain ⟨⟨m1, a1, b1, e1⟩, hsp⟩ : ∃ q, addP m nn y = q := ⟨_, rfl⟩
  rw [hsp]
  have HSP := hid hsp
  have HD := hid (HT1.out.dop (v := .returned (.tuple #[.int .i64 a1, .int .i64 b1, .int .i64 e1])) (m' := m1) fun out' ho h => (Zax w1 nn y (HAT.out.x.grow HT1.out.low) h HG.out.1.ok (by omega)).mono fun e w' hh => by rw [HSP.out] at hh; exact hh)
  clear hsp
  go_enter Tryz.func8, Tryz.ntmps8
  go_wp2_with (fail)
  refine HD.out.mono ?_
  rintro e w2 ⟨rfl, ht2, hs2⟩
  have hbx := HBX.out.same (hs2.same _ HBX.out.lt fun e => e.2 (.inr rfl))
  clear u0 u1 u2 u3 u4 u5 u6 u7 u8 u9 u10 u11
  have r0 := hbx.cell 0
  have r1 := hbx.cell 1
  have r2 := hbx.cell 2
  have r3 := hbx.cell 3
  have r4 := hbx.cell 4
  have r5 := hbx.cell 5
  have r6 := hbx.cell 6
  have r7 := hbx.cell 7
  have r8 := hbx.cell 8
  have r9 := hbx.cell 9
  have r10 := hbx.cell 10
  have r11 := hbx.cell 11
  simp only [Gt] at r0 r1 r2 r3 r4 r5 r6 r7 r8 r9 r10 r11
  have hrs := Zen ht2 HG.out.1 y (by have := Zbq y; omega) nn HAT.out.x
  rw [HSP.out] at hrs
  have HR := hid hrs
  have HS2 := hid (HS1.out.trans (hs2.wider fun k _ hk => ⟨hk.1, fun e => hk.2 (.inl e)⟩))
  clear hs2 hbx HD hrs ht2
  go_wp2_with (fail)
  refine HR.out.mono ?_
  rintro e w3 ⟨rfl, ⟨x1, ht3, hg3⟩, hs3⟩
  dsimp only at hg3
  have HT3 := hid (And.intro ht3 (And.intro hg3 (HS2.out.trans (hs3.wider fun k _ hk => ⟨hk.1, fun e => hk.2 (.inl e)⟩))))
  clear ht3 hs3 hg3 HR HSP HS2
  try dsimp only
  go_wp2_with (fail)
  go_ret
  exact ⟨by simp, ⟨_, HT3.out.1.less fun k hk => .inl hk, HT3.out.2.1.mono (by have := HFS.out; have := HLN.out; omega)⟩, HT3.out.2.2⟩
 by_cases h4 : what = 4
 ·subst h4
  simp only [show ¬ ((4 : Int) = 0) by omega, show ¬ ((4 : Int) = 1) by omega, show ¬ ((4 : Int) = 2) by omega, show ¬ ((4 : Int) = 3) by omega, show ¬ ((4 : Int) = 5) by omega, show ¬ ((4 : Int) = 6) by omega, show ¬ ((4 : Int) = 7) by omega, show ¬ ((4 : Int) = 8) by omega, show ¬ ((4 : Int) = 9) by omega, show ¬ ((4 : Int) = 10) by omega, show ¬ ((4 : Int) = 11) by omega, if_true, if_false, reduceIte, or_false, false_or, or_true, true_or, or_self]
  obtain ⟨od, hdk⟩ := HT1.out.dk
  have hg1 := Zb0 w1 nn aa hdk HG.out.1.ok (by omega) HAT.out.at'
  have hg2 := fun w' (hg : Grows w1 w') => Zn9 (HT1.out.grow hg) HG.out.1 (by omega) nn aa HAT.out.at'
  have hlc := Zlk m nn aa
  obtain ⟨⟨g, ge⟩, hgp⟩ : ∃ q, getP m nn aa = q := ⟨_, rfl⟩
  rw [hgp] at hg1 hlc
  simp only [hgp] at hg2
  unfold rcV at hg1 hg2
  have HG1 := hid hg1
  have HG2 := hid hg2
  have HLC := hid hlc
  clear hdk hg1 hg2 hgp hlc
  go_enter Tryz.func8, Tryz.ntmps8
  go_wp2_with (fail)
  refine HG1.out.mono ?_
  rintro e wa ⟨L1, l1, k1, B1, b1, j1, rfl, hr1, hga⟩
  try dsimp only at hr1
  have gab := Zb wa (.cells #[.int .i64 g.kind, .string ⟨g.key.toArray⟩, .int .i64 g.id, .int .i64 g.no, .int .i64 g.size, .slice L1 l1 k1, .slice B1 b1 j1] 33)
  have hmb := Whole.made wa 33 #[.int .i64 g.kind, .string ⟨g.key.toArray⟩, .int .i64 g.id, .int .i64 g.no, .int .i64 g.size, .slice L1 l1 k1, .slice B1 b1 j1]
  obtain ⟨wb, hwb⟩ : ∃ q, wa.alloc (.cells #[.int .i64 g.kind, .string ⟨g.key.toArray⟩, .int .i64 g.id, .int .i64 g.no, .int .i64 g.size, .slice L1 l1 k1, .slice B1 b1 j1] 33) = q := ⟨_, rfl⟩
  rw [hwb] at gab hmb
  have HB := hid (And.intro (Grows.trans hga gab) (And.intro hmb (hr1.grow gab)))
  have hbx := (Grows.trans hga gab).whole HBX.out
  clear u0 u1 u2 u3 u4 u5 u6 u7 u8 u9 u10 u11
  have u0 := hbx.cell 0
  have u1 := hbx.cell 1
  have u2 := hbx.cell 2
  have u3 := hbx.cell 3
  have u4 := hbx.cell 4
  have u5 := hbx.cell 5
  have u6 := hbx.cell 6
  have u7 := hbx.cell 7
  have u8 := hbx.cell 8
  have u9 := hbx.cell 9
  have u10 := hbx.cell 10
  have u11 := hbx.cell 11
  simp only [Gt] at u0 u1 u2 u3 u4 u5 u6 u7 u8 u9 u10 u11
  clear gab hmb hga hr1 hbx HG1
  try dsimp only
  go_wp2_with (fail)
  clear hwb
  refine (HG2.out wb HB.out.1).mono ?_
  rintro e wc ⟨L2, l2, k2, B2, b2, j2, rfl, hr2, hgc⟩
  try dsimp only at hr2
  have gcd := Zb wc (.cells #[.int .i64 g.kind, .string ⟨g.key.toArray⟩, .int .i64 g.id, .int .i64 g.no, .int .i64 g.size, .slice L2 l2 k2, .slice B2 b2 j2] 33)
  have hmd := Whole.made wc 33 #[.int .i64 g.kind, .string ⟨g.key.toArray⟩, .int .i64 g.id, .int .i64 g.no, .int .i64 g.size, .slice L2 l2 k2, .slice B2 b2 j2]
  obtain ⟨we, hwe⟩ : ∃ q, wc.alloc (.cells #[.int .i64 g.kind, .string ⟨g.key.toArray⟩, .int .i64 g.id, .int .i64 g.no, .int .i64 g.size, .slice L2 l2 k2, .slice B2 b2 j2] 33) = q := ⟨_, rfl⟩
  rw [hwe] at gcd hmd
  have hgg := Grows.trans hgc gcd
  have hm1 := hgg.whole HB.out.2.1
  have s0 := hm1.cell 0
  have t0 := hmd.cell 0
  have s1 := hm1.cell 1
  have t1 := hmd.cell 1
  have s2 := hm1.cell 2
  have t2 := hmd.cell 2
  have s3 := hm1.cell 3
  have t3 := hmd.cell 3
  have s4 := hm1.cell 4
  have t4 := hmd.cell 4
  have s5 := hm1.cell 5
  have t5 := hmd.cell 5
  have s6 := hm1.cell 6
  have t6 := hmd.cell 6
  simp only [Gt] at s0 t0 s1 t1 s2 t2 s3 t3 s4 t4 s5 t5 s6 t6
  have hsm := Zgl g g L1 l1 k1 B1 b1 j1 L2 l2 k2 B2 b2 j2 we (HB.out.2.2.grow hgg) (hr2.grow gcd) (by have := HB.out.2.2.locs.len; have := HLC.out; omega)
  rw [decide_eq_true (Eq.refl g)] at hsm
  have HSM := hid hsm
  have HGE := hid (Grows.trans HB.out.1 hgg)
  clear gcd hmd hgg hm1 hgc hr2 hsm HB HG2
  clear u0 u1 u2 u3 u4 u5 u6 u7 u8 u9 u10 u11
  try dsimp only
  go_wp2_with (fail)
  clear hwe
  refine HSM.out.mono ?_
  rintro e wf ⟨rfl, hgf⟩
  have HGF := hid (Grows.trans HGE.out hgf)
  clear hgf HSM HGE s0 t0 s1 t1 s2 t2 s3 t3 s4 t4 s5 t5 s6 t6
  go_wp2_with (fail)
  go_ret
  exact ⟨by simp, ⟨_, (HT1.out.grow HGF.out).less fun k hk => .inl hk, HG.out.1.mono (by omega)⟩, HS1.out.trans (Stays.grows HGF.out)⟩
 by_cases h5 : what = 5
 ·subst h5
  simp only [show ¬ ((5 : Int) = 0) by omega, show ¬ ((5 : Int) = 1) by omega, show ¬ ((5 : Int) = 2) by omega, show ¬ ((5 : Int) = 3) by omega, show ¬ ((5 : Int) = 4) by omega, show ¬ ((5 : Int) = 6) by omega, show ¬ ((5 : Int) = 7) by omega, show ¬ ((5 : Int) = 8) by omega, show ¬ ((5 : Int) = 9) by omega, show ¬ ((5 : Int) = 10) by omega, show ¬ ((5 : Int) = 11) by omega, if_true, if_false, reduceIte, or_false, false_or, or_true, true_or, or_self]
  obtain ⟨od, hdk⟩ := HT1.out.dk
  have hg1 := Zfe w1 nn HAT.out.n hdk HG.out.1.ok (by omega)
  have hg2 := fun w' (hg : Grows w1 w') => Zof (HT1.out.grow hg) HG.out.1 (by omega) nn HAT.out.n
  have hlc := Zgq HG.out.1 (by omega) nn
  obtain ⟨⟨gl, gb, ge⟩, hgp⟩ : ∃ q, Jg m nn = q := ⟨_, rfl⟩
  rw [hgp] at hg1 hlc
  simp only [hgp] at hg2
  have HG1 := hid hg1
  have HG2 := hid hg2
  have HLC := hid hlc
  clear hdk hg1 hg2 hgp hlc
  go_enter Tryz.func8, Tryz.ntmps8
  go_wp2_with (fail)
  refine HG1.out.mono ?_
  rintro e wa ⟨A1, c1, l1, rfl, ho1, hl1, hga⟩
  try dsimp only at hl1
  have hbx := hga.whole HBX.out
  have HA := hid (And.intro ho1 (And.intro hl1 hga))
  clear u0 u1 u2 u3 u4 u5 u6 u7 u8 u9 u10 u11
  have u0 := hbx.cell 0
  have u1 := hbx.cell 1
  have u2 := hbx.cell 2
  have u3 := hbx.cell 3
  have u4 := hbx.cell 4
  have u5 := hbx.cell 5
  have u6 := hbx.cell 6
  have u7 := hbx.cell 7
  have u8 := hbx.cell 8
  have u9 := hbx.cell 9
  have u10 := hbx.cell 10
  have u11 := hbx.cell 11
  simp only [Gt] at u0 u1 u2 u3 u4 u5 u6 u7 u8 u9 u10 u11
  clear ho1 hl1 hga hbx HG1
  try dsimp only
  go_wp2_with (fail)
  refine (HG2.out wa HA.out.2.2).mono ?_
  rintro e wb ⟨A2, c2, l2, rfl, ho2, hl2, hgb⟩
  try dsimp only at hl2
  have hsm := Zol wb l1 l2 A1 l1.length c1 A2 l2.length c2 (HA.out.1.grow hgb).fnds ho2.fnds (by
   have h1 := congrArg List.length HA.out.2.1
   rw [List.length_map] at h1
   have := HLC.out.1
   try dsimp only at this
   omega) (fun p hp => by
   have h1 := (HA.out.1.recs p hp).len
   have h2 := HLC.out.2 p.1 (by rw [← HA.out.2.1]; exact List.mem_map.2 ⟨p, hp, rfl⟩)
   omega)
  have hfe : fnsOf l1 = fnsOf l2 := HA.out.2.1.trans hl2.symm
  rw [decide_eq_true hfe] at hsm
  obtain ⟨n1, hn1⟩ : ∃ n1, l1.length = n1 := ⟨_, rfl⟩
  obtain ⟨n2, hn2⟩ : ∃ n2, l2.length = n2 := ⟨_, rfl⟩
  rw [hn1, hn2] at hsm
  have HSM := hid hsm
  have HGB := hid (Grows.trans HA.out.2.2 hgb)
  rw [hn1, hn2]
  clear ho2 hl2 hgb hsm hfe HA HG2 hn1 hn2
  clear u0 u1 u2 u3 u4 u5 u6 u7 u8 u9 u10 u11
  try dsimp only
  go_wp2_with (fail)
  refine HSM.out.mono ?_
  rintro e wf ⟨rfl, hgf⟩
  have HGF := hid (Grows.trans HGB.out hgf)
  clear hgf HSM HGB
  go_wp2_with (fail)
  go_ret
  exact ⟨by simp, ⟨_, (HT1.out.grow HGF.out).less fun k hk => .inl hk, HG.out.1.mono (by omega)⟩, HS1.out.trans (Stays.grows HGF.out)⟩
 by_cases h6 : what = 6
 ·subst h6
  simp only [show ¬ ((6 : Int) = 0) by omega, show ¬ ((6 : Int) = 1) by omega, show ¬ ((6 : Int) = 2) by omega, show ¬ ((6 : Int) = 3) by omega, show ¬ ((6 : Int) = 4) by omega, show ¬ ((6 : Int) = 5) by omega, show ¬ ((6 : Int) = 7) by omega, show ¬ ((6 : Int) = 8) by omega, show ¬ ((6 : Int) = 9) by omega, show ¬ ((6 : Int) = 10) by omega, show ¬ ((6 : Int) = 11) by omega, if_true, if_false, reduceIte, or_false, false_or, or_true, true_or, or_self]
  have hg1 := HG.out.1.fails aa HAT.out.at'.2
  obtain ⟨m1, hm1⟩ : ∃ q, m.setFail aa = q := ⟨_, rfl⟩
  rw [hm1] at hg1 ⊢
  have HD := hid (HT1.out.dop (v := .returned (.tuple #[])) (m' := m1) fun out' ho h => hm1 ▸ Zq3 aa h)
  have HGX := hid hg1
  clear hg1
  go_enter Tryz.func8, Tryz.ntmps8
  go_wp2_with (fail)
  refine HD.out.mono ?_
  rintro e w2 ⟨rfl, ht2, hs2⟩
  have hbx := HBX.out.same (hs2.same _ HBX.out.lt fun e => e.2 (.inr rfl))
  clear u0 u1 u2 u3 u4 u5 u6 u7 u8 u9 u10 u11
  have r0 := hbx.cell 0
  have r1 := hbx.cell 1
  have r2 := hbx.cell 2
  have r3 := hbx.cell 3
  have r4 := hbx.cell 4
  have r5 := hbx.cell 5
  have r6 := hbx.cell 6
  have r7 := hbx.cell 7
  have r8 := hbx.cell 8
  have r9 := hbx.cell 9
  have r10 := hbx.cell 10
  have r11 := hbx.cell 11
  simp only [Gt] at r0 r1 r2 r3 r4 r5 r6 r7 r8 r9 r10 r11
  have HR := hid (ht2.rop (v := .returned (.tuple #[])) (x' := x.setFail aa) fun ro fv nv kv pv k1 k2 => Zl8 _ aa k1)
  have HS2 := hid (HS1.out.trans (hs2.wider fun k _ hk => ⟨hk.1, fun e => hk.2 (.inl e)⟩))
  clear hs2 hbx HD ht2
  go_wp2_with (fail)
  refine HR.out.mono ?_
  rintro e w3 ⟨rfl, ht3, hs3⟩
  have HT3 := hid (And.intro ht3 (HS2.out.trans (hs3.wider fun k _ hk => ⟨hk.1, fun e => hk.2 (.inl e)⟩)))
  clear ht3 hs3 HR HS2
  go_wp2_with (fail)
  go_ret
  exact ⟨rfl, ⟨_, HT3.out.1.less fun k hk => .inl hk, HGX.out.mono (by omega)⟩, HT3.out.2⟩
 by_cases h7 : what = 7
 ·subst h7
  simp only [show ¬ ((7 : Int) = 0) by omega, show ¬ ((7 : Int) = 1) by omega, show ¬ ((7 : Int) = 2) by omega, show ¬ ((7 : Int) = 3) by omega, show ¬ ((7 : Int) = 4) by omega, show ¬ ((7 : Int) = 5) by omega, show ¬ ((7 : Int) = 6) by omega, show ¬ ((7 : Int) = 8) by omega, show ¬ ((7 : Int) = 9) by omega, show ¬ ((7 : Int) = 10) by omega, show ¬ ((7 : Int) = 11) by omega, if_true, if_false, reduceIte, or_false, false_or, or_true, true_or, or_self]
  have hg1 := HG.out.1.cuts aa HAT.out.at'.2
  obtain ⟨m1, hm1⟩ : ∃ q, m.setCut aa = q := ⟨_, rfl⟩
  rw [hm1] at hg1 ⊢
  have HD := hid (HT1.out.dop (v := .returned (.tuple #[])) (m' := m1) fun out' ho h => hm1 ▸ Zr0 aa h)
  have HGX := hid hg1
  clear hg1
  go_enter Tryz.func8, Tryz.ntmps8
  go_wp2_with (fail)
  refine HD.out.mono ?_
  rintro e w2 ⟨rfl, ht2, hs2⟩
  have hbx := HBX.out.same (hs2.same _ HBX.out.lt fun e => e.2 (.inr rfl))
  clear u0 u1 u2 u3 u4 u5 u6 u7 u8 u9 u10 u11
  have r0 := hbx.cell 0
  have r1 := hbx.cell 1
  have r2 := hbx.cell 2
  have r3 := hbx.cell 3
  have r4 := hbx.cell 4
  have r5 := hbx.cell 5
  have r6 := hbx.cell 6
  have r7 := hbx.cell 7
  have r8 := hbx.cell 8
  have r9 := hbx.cell 9
  have r10 := hbx.cell 10
  have r11 := hbx.cell 11
  simp only [Gt] at r0 r1 r2 r3 r4 r5 r6 r7 r8 r9 r10 r11
  have HR := hid (ht2.rop (v := .returned (.tuple #[])) (x' := x.setCut aa) fun ro fv nv kv pv k1 k2 => Zos _ aa k1)
  have HS2 := hid (HS1.out.trans (hs2.wider fun k _ hk => ⟨hk.1, fun e => hk.2 (.inl e)⟩))
  clear hs2 hbx HD ht2
  go_wp2_with (fail)
  refine HR.out.mono ?_
  rintro e w3 ⟨rfl, ht3, hs3⟩
  have HT3 := hid (And.intro ht3 (HS2.out.trans (hs3.wider fun k _ hk => ⟨hk.1, fun e => hk.2 (.inl e)⟩)))
  clear ht3 hs3 HR HS2
  go_wp2_with (fail)
  go_ret
  exact ⟨rfl, ⟨_, HT3.out.1.less fun k hk => .inl hk, HGX.out.mono (by omega)⟩, HT3.out.2⟩
 by_cases h8 : what = 8
 ·subst h8
  simp only [show ¬ ((8 : Int) = 0) by omega, show ¬ ((8 : Int) = 1) by omega, show ¬ ((8 : Int) = 2) by omega, show ¬ ((8 : Int) = 3) by omega, show ¬ ((8 : Int) = 4) by omega, show ¬ ((8 : Int) = 5) by omega, show ¬ ((8 : Int) = 6) by omega, show ¬ ((8 : Int) = 7) by omega, show ¬ ((8 : Int) = 9) by omega, show ¬ ((8 : Int) = 10) by omega, show ¬ ((8 : Int) = 11) by omega, if_true, if_false, reduceIte, or_false, false_or, or_true, true_or, or_self]
  have hg1 := HG.out.1.boot (by omega) aa bytes
  obtain ⟨m1, hm1⟩ : ∃ q, m.boot aa bytes = q := ⟨_, rfl⟩
  rw [hm1] at hg1 ⊢
  have HD := hid (HT1.out.dop (v := .returned (.tuple #[])) (m' := m1) fun out' ho h => hm1 ▸ Zq4 aa h HG.out.1.ok (by omega) (HAT.out.bytes.grow h.low) HAT.out.each (fun ad e hne => .inl (Ints.block HAT.out.bytes ad e hne)))
  have HGX := hid hg1
  clear hg1
  go_enter Tryz.func8, Tryz.ntmps8
  go_wp2_with (fail)
  refine HD.out.mono ?_
  rintro e w2 ⟨rfl, ht2, hs2⟩
  have hbx := HBX.out.same (hs2.same _ HBX.out.lt fun e => e.2 (.inr rfl))
  clear u0 u1 u2 u3 u4 u5 u6 u7 u8 u9 u10 u11
  have r0 := hbx.cell 0
  have r1 := hbx.cell 1
  have r2 := hbx.cell 2
  have r3 := hbx.cell 3
  have r4 := hbx.cell 4
  have r5 := hbx.cell 5
  have r6 := hbx.cell 6
  have r7 := hbx.cell 7
  have r8 := hbx.cell 8
  have r9 := hbx.cell 9
  have r10 := hbx.cell 10
  have r11 := hbx.cell 11
  simp only [Gt] at r0 r1 r2 r3 r4 r5 r6 r7 r8 r9 r10 r11
  have HR := hid (ht2.rop (v := .returned (.tuple #[])) (x' := x.boot aa bytes) fun ro fv nv kv pv k1 k2 => Zlp _ aa bytes k1 (HG.out.1.fit (by omega)) (HG.out.1.sum (by omega)) (HAT.out.bytes.grow ht2.low) HAT.out.each)
  have HS2 := hid (HS1.out.trans (hs2.wider fun k _ hk => ⟨hk.1, fun e => hk.2 (.inl e)⟩))
  clear hs2 hbx HD ht2
  go_wp2_with (fail)
  refine HR.out.mono ?_
  rintro e w3 ⟨rfl, ht3, hs3⟩
  have HT3 := hid (And.intro ht3 (HS2.out.trans (hs3.wider fun k _ hk => ⟨hk.1, fun e => hk.2 (.inl e)⟩)))
  clear ht3 hs3 HR HS2
  go_wp2_with (fail)
  go_ret
  exact ⟨rfl, ⟨_, HT3.out.1.less fun k hk => .inl hk, HGX.out.mono (by omega)⟩, HT3.out.2⟩
 by_cases h9 : what = 9
 ·subst h9
  simp only [show ¬ ((9 : Int) = 0) by omega, show ¬ ((9 : Int) = 1) by omega, show ¬ ((9 : Int) = 2) by omega, show ¬ ((9 : Int) = 3) by omega, show ¬ ((9 : Int) = 4) by omega, show ¬ ((9 : Int) = 5) by omega, show ¬ ((9 : Int) = 6) by omega, show ¬ ((9 : Int) = 7) by omega, show ¬ ((9 : Int) = 8) by omega, show ¬ ((9 : Int) = 10) by omega, show ¬ ((9 : Int) = 11) by omega, if_true, if_false, reduceIte, or_false, false_or, or_true, true_or, or_self]
  obtain ⟨v, hv⟩ : ∃ v, (m.flip (nmL nn) aa z).2 = v := ⟨_, rfl⟩
  have HXV := hid (show (x.flip (nmL nn) aa z).2 = v from (HG.out.1.flip (nmL nn) aa z).1.trans hv)
  have hg1 := (HG.out.1.flip (nmL nn) aa z).2
  obtain ⟨m1, hm1⟩ : ∃ q, (m.flip (nmL nn) aa z).1 = q := ⟨_, rfl⟩
  obtain ⟨x1, hx1⟩ : ∃ q, (x.flip (nmL nn) aa z).1 = q := ⟨_, rfl⟩
  rw [hm1] at hg1 ⊢
  rw [hx1] at hg1
  have HM1 := hid (show m.flip (nmL nn) aa z = (m1, v) from Prod.ext hm1 hv)
  have HX1 := hid hx1
  have HLN2 := hid (fun w' => Zh7 w' nn HAT.out.n)
  obtain ⟨sn, hsn⟩ : ∃ s : ByteArray, (⟨(nmL nn).toArray⟩ : ByteArray) = s := ⟨_, rfl⟩
  rw [hsn] at HLN2
  have HSN := hid hsn
  have HGX := hid hg1
  clear hg1 hsn hm1 hx1 hv
  go_enter Tryz.func8, Tryz.ntmps8
  go_wp2_with (fail)
  have HBC := hid (show ∀ w', Zc (fun k => w0.heap.size ≤ k ∧ ¬ (out k ∨ k = w.heap.size)) w1 w' → w'.cell? { block := w.heap.size, off := 1 } = some (.int .i64 nn) ∧ w'.cell? { block := w.heap.size, off := 9 } = some (.int .i64 aa) ∧ w'.cell? { block := w.heap.size, off := 11 } = some (.int .u32 (z : Int)) from fun w' hC => by
   have hb := HBX.out.same (hC.same _ HBX.out.lt fun e => e.2 (.inr rfl))
   exact ⟨hb.cell 1, hb.cell 9, hb.cell 11⟩)
  clear u0 u1 u2 u3 u4 u5 u6 u7 u8 u9 u10 u11
  refine Yh (G := Grows) (E := Zc (fun k => w0.heap.size ≤ k ∧ ¬ (out k ∨ k = w.heap.size))) 9 [Zl _ (.pointer (some ⟨d, 0, none⟩)), Zl _ (.pointer (some ⟨w.heap.size, 1, none⟩)), Zl _ (.int .i64 nn), Zl _ (.string sn), Zl _ (.pointer (some ⟨w.heap.size, 9, none⟩)), Zl _ (.int .i64 aa), Zl _ (.pointer (some ⟨w.heap.size, 11, none⟩)), Zl _ (.int .u32 (z : Int)), wrJob _ (.bool v) (fun w' => Two w0.heap.size w0 w' d r (fun k => out k ∨ k = w.heap.size) m1 x) (fun _ _ h hg => h.grow hg)] [(false, false), (false, false), (false, false), (false, false), (false, false), (false, false), (false, false), (false, false), (true, true)] (fun w' => Two w0.heap.size w0 w' d r (fun k => out k ∨ k = w.heap.size) m x) rfl mixed (by kernel_rfl) (fun _ _ => Zc.grows) (fun _ _ _ => Zc.trans) (Jd _ _) (HT1.out.grow (Ze _)) (fun _ _ h hg => h.grow hg) ?_
  simp only [List.take_succ_cons, List.take_zero, List.drop_succ_cons, List.drop_zero]
  iterate 2
   refine j_val _ (by rfl) ?_ ?_
   ·intro w' hC; clear hC; go_simp
   simp only [Pu]
  refine j_val _ (by rfl) ?_ ?_
  ·intro w' hC; obtain ⟨x1, x9, x11⟩ := HBC.out w' hC; clear hC; go_simp
  simp only [Pu]
  refine Zhf 32 #[.int .i64 nn] (.string sn) (by rfl) (by intro w' hC; clear hC; go_simp) ?_ ?_
  ·intro w' hC hks; exact HLN2.out w'
  simp only [Pu]
  refine j_val _ (by rfl) ?_ ?_
  ·intro w' hC; clear hC; go_simp
  simp only [Pu]
  refine j_val _ (by rfl) ?_ ?_
  ·intro w' hC; obtain ⟨x1, x9, x11⟩ := HBC.out w' hC; clear hC; go_simp
  simp only [Pu]
  refine j_val _ (by rfl) ?_ ?_
  ·intro w' hC; clear hC; go_simp
  simp only [Pu]
  refine j_val _ (by rfl) ?_ ?_
  ·intro w' hC; obtain ⟨x1, x9, x11⟩ := HBC.out w' hC; clear hC; go_simp
  simp only [Pu]
  refine Zij 31 #[.pointer (some ⟨d, 0, none⟩), .string sn, .int .i64 aa, .int .u32 (z : Int)] (.bool v) (by rfl) (by intro w' hC; clear hC; go_simp) ?_ ?_
  ·intro w' hC hcls
   refine (hcls.dop (v := .returned (.bool v)) (m' := m1) fun out' ho h => by
    have hf := Zrf (nmL nn) aa z h HG.out.1.ok (by omega) (by rw [Zfo]; omega) HAT.out.at' HZB.out HM1.out
    rw [HSN.out] at hf
    exact hf).mono fun e w'' hh => ⟨hh.1, hh.2.2, hh.2.1⟩
  simp only [Pu]
  refine Zcv ?_
  intro w2 hC hks hcls
  have HCw2 := hid hC
  have HLw2 := hid hcls
  clear hC hks hcls
  have HBX2 := hid (HBX.out.same (HCw2.out.same _ HBX.out.lt fun e => e.2 (.inr rfl)))
  have HS2 := hid (HS1.out.trans (Zc.wider HCw2.out fun k _ hk => ⟨hk.1, fun e => hk.2 (.inl e)⟩))
  clear HBC
  go_wp2_with (fail)
  have HBC := hid (show ∀ w', Zc (fun k => w0.heap.size ≤ k ∧ ¬ (out k ∨ k = w.heap.size)) w2 w' → w'.cell? { block := w.heap.size, off := 1 } = some (.int .i64 nn) ∧ w'.cell? { block := w.heap.size, off := 9 } = some (.int .i64 aa) ∧ w'.cell? { block := w.heap.size, off := 11 } = some (.int .u32 (z : Int)) from fun w' hC => by
   have hb := HBX2.out.same (hC.same _ HBX2.out.lt fun e => e.2 (.inr rfl))
   exact ⟨hb.cell 1, hb.cell 9, hb.cell 11⟩)
  refine Yh (G := Grows) (E := Zc (fun k => w0.heap.size ≤ k ∧ ¬ (out k ∨ k = w.heap.size))) 11 [Zl _ (.bool v), Zl _ (.pointer (some ⟨r, 0, none⟩)), Zl _ (.pointer (some ⟨w.heap.size, 1, none⟩)), Zl _ (.int .i64 nn), Zl _ (.string sn), Zl _ (.pointer (some ⟨w.heap.size, 9, none⟩)), Zl _ (.int .i64 aa), Zl _ (.pointer (some ⟨w.heap.size, 11, none⟩)), Zl _ (.int .u32 (z : Int)), wrJob _ (.bool v) (fun w' => Two w0.heap.size w0 w' d r (fun k => out k ∨ k = w.heap.size) m1 x1) (fun _ _ h hg => h.grow hg), Zl _ (.bool true)] [(false, false), (false, false), (false, false), (false, false), (false, false), (false, false), (false, false), (false, false), (false, false), (true, true), (false, false)] (fun w' => Two w0.heap.size w0 w' d r (fun k => out k ∨ k = w.heap.size) m1 x) rfl mixed (by kernel_rfl) (fun _ _ => Zc.grows) (fun _ _ _ => Zc.trans) (Jd _ _) (HLw2.out.grow (Ze _)) (fun _ _ h hg => h.grow hg) ?_
  simp only [List.take_succ_cons, List.take_zero, List.drop_succ_cons, List.drop_zero]
  iterate 3
   refine j_val _ (by rfl) ?_ ?_
   ·intro w' hC; clear hC; go_simp
   simp only [Pu]
  refine j_val _ (by rfl) ?_ ?_
  ·intro w' hC; obtain ⟨x1, x9, x11⟩ := HBC.out w' hC; clear hC; go_simp
  simp only [Pu]
  refine Zhf 32 #[.int .i64 nn] (.string sn) (by rfl) (by intro w' hC; clear hC; go_simp) ?_ ?_
  ·intro w' hC hks; exact HLN2.out w'
  simp only [Pu]
  refine j_val _ (by rfl) ?_ ?_
  ·intro w' hC; clear hC; go_simp
  simp only [Pu]
  refine j_val _ (by rfl) ?_ ?_
  ·intro w' hC; obtain ⟨x1, x9, x11⟩ := HBC.out w' hC; clear hC; go_simp
  simp only [Pu]
  refine j_val _ (by rfl) ?_ ?_
  ·intro w' hC; clear hC; go_simp
  simp only [Pu]
  refine j_val _ (by rfl) ?_ ?_
  ·intro w' hC; obtain ⟨x1, x9, x11⟩ := HBC.out w' hC; clear hC; go_simp
  simp only [Pu]
  refine Zij 33 #[.pointer (some ⟨r, 0, none⟩), .string sn, .int .i64 aa, .int .u32 (z : Int)] (.bool v) (by rfl) (by intro w' hC; clear hC; go_simp) ?_ ?_
  ·intro w' hC hcls
   refine (hcls.rop (v := .returned (.bool v)) (x' := x1) fun ro fv nv kv pv k1 k2 => by
    have hf := Zm2 _ (nmL nn) aa z k1 (HG.out.1.fit (by omega)) HAT.out.at' HZB.out
    rw [HSN.out] at hf
    exact hf.mono fun e w' hh => ⟨by rw [hh.1, HXV.out], HX1.out ▸ hh.2⟩).mono fun e w'' hh => ⟨hh.1, hh.2.2, hh.2.1⟩
  simp only [Pu]
  refine j_val _ (by rfl) ?_ ?_
  ·intro w' hC; clear hC; go_simp
  simp only [Pu]
  refine Zcv ?_
  intro w3 hC hks hcls
  have HCw3 := hid hC
  have HLw3 := hid hcls
  clear hC hks hcls
  have HS3 := hid (HS2.out.trans (Zc.wider HCw3.out fun k _ hk => ⟨hk.1, fun e => hk.2 (.inl e)⟩))
  clear HBC
  go_wp2_with (fail)
  go_ret
  exact ⟨rfl, ⟨_, HLw3.out.less fun k hk => .inl hk, HGX.out.mono (by omega)⟩, HS3.out⟩
 by_cases h10 : what = 10
 ·subst h10
  simp only [show ¬ ((10 : Int) = 0) by omega, show ¬ ((10 : Int) = 1) by omega, show ¬ ((10 : Int) = 2) by omega, show ¬ ((10 : Int) = 3) by omega, show ¬ ((10 : Int) = 4) by omega, show ¬ ((10 : Int) = 5) by omega, show ¬ ((10 : Int) = 6) by omega, show ¬ ((10 : Int) = 7) by omega, show ¬ ((10 : Int) = 8) by omega, show ¬ ((10 : Int) = 9) by omega, show ¬ ((10 : Int) = 11) by omega, if_true, if_false, reduceIte, or_false, false_or, or_true, true_or, or_self]
  obtain ⟨v, hv⟩ : ∃ v, m.syncDir.2 = v := ⟨_, rfl⟩
  have HXV := hid (show x.syncDir.2 = v from HG.out.1.syncDir.1.trans hv)
  have hg1 := HG.out.1.syncDir.2
  obtain ⟨m1, hm1⟩ : ∃ q, m.syncDir.1 = q := ⟨_, rfl⟩
  rw [hm1] at hg1 ⊢
  have HD := hid (HT1.out.dop (v := .returned (.int .i64 v)) (m' := m1) fun out' ho h => Zka h HG.out.1.ok (by omega) hv hm1)
  have HGX := hid hg1
  clear hg1
  go_enter Tryz.func8, Tryz.ntmps8
  go_wp2_with (fail)
  refine HD.out.mono ?_
  rintro e w2 ⟨rfl, ht2, hs2⟩
  have hbx := HBX.out.same (hs2.same _ HBX.out.lt fun e => e.2 (.inr rfl))
  clear u0 u1 u2 u3 u4 u5 u6 u7 u8 u9 u10 u11
  have r0 := hbx.cell 0
  have r1 := hbx.cell 1
  have r2 := hbx.cell 2
  have r3 := hbx.cell 3
  have r4 := hbx.cell 4
  have r5 := hbx.cell 5
  have r6 := hbx.cell 6
  have r7 := hbx.cell 7
  have r8 := hbx.cell 8
  have r9 := hbx.cell 9
  have r10 := hbx.cell 10
  have r11 := hbx.cell 11
  simp only [Gt] at r0 r1 r2 r3 r4 r5 r6 r7 r8 r9 r10 r11
  have HR := hid (ht2.rop (v := .returned (.int .i64 v)) (x' := x.syncDir.1) fun ro fv nv kv pv k1 k2 => (Zgw _ k1 (HG.out.1.fit (by omega))).mono fun e w' hh => ⟨by rw [hh.1, HXV.out], hh.2⟩)
  have HS2 := hid (HS1.out.trans (hs2.wider fun k _ hk => ⟨hk.1, fun e => hk.2 (.inl e)⟩))
  clear hs2 hbx HD ht2
  go_wp2_with (fail)
  refine HR.out.mono ?_
  rintro e w3 ⟨rfl, ht3, hs3⟩
  have HT3 := hid (And.intro ht3 (HS2.out.trans (hs3.wider fun k _ hk => ⟨hk.1, fun e => hk.2 (.inl e)⟩)))
  clear ht3 hs3 HR HS2
  go_wp2_with (fail)
  go_ret
  exact ⟨by simp, ⟨_, HT3.out.1.less fun k hk => .inl hk, HGX.out.mono (by omega)⟩, HT3.out.2⟩
 by_cases h11 : what = 11
 ·subst h11
  simp only [show ¬ ((11 : Int) = 0) by omega, show ¬ ((11 : Int) = 1) by omega, show ¬ ((11 : Int) = 2) by omega, show ¬ ((11 : Int) = 3) by omega, show ¬ ((11 : Int) = 4) by omega, show ¬ ((11 : Int) = 5) by omega, show ¬ ((11 : Int) = 6) by omega, show ¬ ((11 : Int) = 7) by omega, show ¬ ((11 : Int) = 8) by omega, show ¬ ((11 : Int) = 9) by omega, show ¬ ((11 : Int) = 10) by omega, if_true, if_false, reduceIte, or_false, false_or, or_true, true_or, or_self]
  obtain ⟨v, hv⟩ : ∃ v, (m.sync (nmL nn)).2 = v := ⟨_, rfl⟩
  have HXV := hid (show (x.sync (nmL nn)).2 = v from (HG.out.1.sync (nmL nn)).1.trans hv)
  have hg1 := (HG.out.1.sync (nmL nn)).2
  obtain ⟨m1, hm1⟩ : ∃ q, (m.sync (nmL nn)).1 = q := ⟨_, rfl⟩
  rw [hm1] at hg1 ⊢
  have HLN2 := hid (fun w' => Zh7 w' nn HAT.out.n)
  have HD := hid (fun w' (hg : Grows w1 w') => (HT1.out.grow hg).dop (v := .returned (.int .i64 v)) (m' := m1) fun out' ho h => Zq2 (nmL nn) h HG.out.1.ok (by omega) (by rw [Zfo]; omega) hv hm1)
  have HGX := hid hg1
  obtain ⟨sn, hsn⟩ : ∃ s : ByteArray, (⟨(nmL nn).toArray⟩ : ByteArray) = s := ⟨_, rfl⟩
  rw [hsn] at HLN2 HD
  have HSN := hid hsn
  clear hg1 hsn
  go_enter Tryz.func8, Tryz.ntmps8
  go_wp2_with (fail)
  refine (HLN2.out w1).mono ?_
  rintro e wa ⟨rfl, hga⟩
  have hbx := hga.whole HBX.out
  have HA := hid (And.intro hga hbx)
  clear hga hbx
  go_wp2_with (fail)
  refine (HD.out wa HA.out.1).mono ?_
  rintro e w2 ⟨rfl, ht2, hs2⟩
  have hbx := HA.out.2.same (hs2.same _ HA.out.2.lt fun e => e.2 (.inr rfl))
  clear u0 u1 u2 u3 u4 u5 u6 u7 u8 u9 u10 u11
  have r0 := hbx.cell 0
  have r1 := hbx.cell 1
  have r2 := hbx.cell 2
  have r3 := hbx.cell 3
  have r4 := hbx.cell 4
  have r5 := hbx.cell 5
  have r6 := hbx.cell 6
  have r7 := hbx.cell 7
  have r8 := hbx.cell 8
  have r9 := hbx.cell 9
  have r10 := hbx.cell 10
  have r11 := hbx.cell 11
  simp only [Gt] at r0 r1 r2 r3 r4 r5 r6 r7 r8 r9 r10 r11
  have HT2 := hid ht2
  have HS2 := hid (HS1.out.trans ((Stays.grows HA.out.1).trans (hs2.wider fun k _ hk => ⟨hk.1, fun e => hk.2 (.inl e)⟩)))
  clear hs2 hbx HD ht2
  go_wp2_with (fail)
  refine (HLN2.out w2).mono ?_
  rintro e wb ⟨rfl, hgb⟩
  have hr := (HT2.out.grow hgb).rop (v := .returned (.int .i64 v)) (x' := (x.sync (nmL nn)).1) fun ro fv nv kv pv k1 k2 => (Zlr _ (nmL nn) k1 (HG.out.1.fit (by omega))).mono fun e w' hh => ⟨by rw [hh.1, HXV.out], hh.2⟩
  rw [HSN.out] at hr
  have HR := hid hr
  have HS3 := hid (HS2.out.trans (Stays.grows hgb))
  clear hr hgb
  go_wp2_with (fail)
  refine HR.out.mono ?_
  rintro e w3 ⟨rfl, ht3, hs3⟩
  have HT3 := hid (And.intro ht3 (HS3.out.trans (hs3.wider fun k _ hk => ⟨hk.1, fun e => hk.2 (.inl e)⟩)))
  clear ht3 hs3 HR HS2 HS3
  go_wp2_with (fail)
  go_ret
  exact ⟨by simp, ⟨_, HT3.out.1.less fun k hk => .inl hk, HGX.out.mono (by omega)⟩, HT3.out.2⟩
 rw [if_neg h0, if_neg (by omega), if_neg h6, if_neg h7, if_neg h8, if_neg h9, if_neg h10, if_neg h11]
 have n0 : (what == 0) = false := by rw [beq_eq_false_iff_ne]; omega
 have n1 : (what == 1) = false := by rw [beq_eq_false_iff_ne]; omega
 have n2 : (what == 2) = false := by rw [beq_eq_false_iff_ne]; omega
 have n3 : (what == 3) = false := by rw [beq_eq_false_iff_ne]; omega
 have n4 : (what == 4) = false := by rw [beq_eq_false_iff_ne]; omega
 have n5 : (what == 5) = false := by rw [beq_eq_false_iff_ne]; omega
 have n6 : (what == 6) = false := by rw [beq_eq_false_iff_ne]; omega
 have n7 : (what == 7) = false := by rw [beq_eq_false_iff_ne]; omega
 have n8 : (what == 8) = false := by rw [beq_eq_false_iff_ne]; omega
 have n9 : (what == 9) = false := by rw [beq_eq_false_iff_ne]; omega
 have n10 : (what == 10) = false := by rw [beq_eq_false_iff_ne]; omega
 have n11 : (what == 11) = false := by rw [beq_eq_false_iff_ne]; omega
 clear h0 h1 h2 h3 h4 h5 h6 h7 h8 h9 h10 h11
 go_enter Tryz.func8, Tryz.ntmps8
 go_wp2_with (fail)
 go_ret
 exact ⟨rfl, ⟨x, HT1.out.less fun k hk => .inl hk, HG.out.1.mono (by omega)⟩, HS1.out⟩
end
end Go.Proofs.YtlldcogkcjnejaaGreat
