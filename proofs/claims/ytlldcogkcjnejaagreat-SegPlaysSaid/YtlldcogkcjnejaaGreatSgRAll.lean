import Derived.Test.YtlldcogkcjnejaaGreatMG29
import Derived.Test.YtlldcogkcjnejaaGreatSgAll
import Derived.Test.YtlldcogkcjnejaaGreatRcRefGetAny
import Derived.Test.YtlldcogkcjnejaaGreatMG34
import Derived.Test.YtlldcogkcjnejaaGreatMG10
import Derived.Test.YtlldcogkcjnejaaGreatSgRGet
namespace Go.Proofs.YtlldcogkcjnejaaGreat
open Go.Lib (hid)
open Go.RowKit
theorem Zod (l : List It) (x : It) : fnsP (l ++ [x]) = fnsP l ++ if (getR x.2.2).isSome = true then [(x.1, x.2.1, rcOf x.2.2)] else [] := by
 unfold fnsP
 rw [List.filter_append, List.map_append]
 by_cases h : (getR x.2.2).isSome = true <;> simp [h]
theorem Zoe (l : List It) (x : It) : badP (l ++ [x]) = badP l + if (getR x.2.2).isSome = true then 0 else 1 := by
 unfold badP
 rw [List.filter_append, List.length_append]
 by_cases h : (getR x.2.2).isSome = true
 ·rw [if_pos h, List.filter_cons, if_neg (by rw [h]; decide)]
  rfl
 ·rw [if_neg h, List.filter_cons, if_pos (by simp [h])]
  rfl
theorem Zlg {ts : List It} {i : Nat} (h1 : 1 ≤ i) (h2 : i < ts.length) : (ts.take (i + 1)).drop 1 = (ts.take i).drop 1 ++ [ts.getD i (0, 0, [])] := by
 rw [List.take_add_one, List.getElem?_eq_getElem h2, List.drop_append_of_le_length (by rw [List.length_take]; omega)]
 simp [h2]
theorem Zep {w w' : World} {b1 b2 : Nat} {e1 e2 : TypeId} {s1 s2 : Nat} {v1 v2 : Value} {n1 n2 : Nat} {xs1 xs2 : List Value} (h1 : w.ownsRow b1 e1 s1 v1 n1 xs1) (h2 : w.ownsRow b2 e2 s2 v2 n2 xs2) (hne : e1 ≠ e2) (hg : w.grownBy w' v2.ownBlock) : w'.ownsRow b1 e1 s1 v1 n1 xs1 := by
 refine Zy h1 fun k hk => hg.block k (h1.lt k hk).2 fun e => ?_
 rcases h1.2 with ⟨rfl, _⟩ | ⟨g, cap, cur, rfl, _, hg1, _⟩
 ·simp [Value.ownBlock] at hk
 rcases h2.2 with ⟨rfl, _⟩ | ⟨g', cap', cur', rfl, _, hg2, _⟩
 ·simp [Value.ownBlock] at e
 ·obtain rfl : g = k := by simpa [Value.ownBlock] using hk
  obtain rfl : g = g' := by simpa [Value.ownBlock] using e
  rw [hg1] at hg2
  injection hg2 with hg2
  injection hg2 with _ ht _
  exact hne ht
theorem RcOwn.unlike {w w' : World} {b b2 : Nat} {LA : Option Addr} {ln lc : Nat} {BA : Option Addr} {bn bc : Nat} {r : Rc} (h : RcOwn w b LA ln lc BA bn bc r) {v2 : Value} {n2 : Nat} {xs2 : List Value} (h2 : w.ownsRow b2 53 9 v2 n2 xs2) (hg : w.grownBy w' v2.ownBlock) : RcOwn w' b LA ln lc BA bn bc r :=
 ⟨Zep h.locs h2 (by decide) hg, h.len, Zep h.b h2 (by decide) hg⟩
theorem Zrv {w : World} {g ty : Nat} {p : Fn × Fh} (hw : Whole w g ty (fnE p).toArray) : Row w w.heap.size (some ⟨g, 0, none⟩) 9 (fnE p) :=
 ⟨rfl, fun k v hv => ⟨⟨g, 0, none⟩, rfl, hw.lt, Znn hw k v hv⟩⟩
def Zj5 (n ty : Nat) (cs : Array Value) : Fact Grows := ⟨Nat, 0, fun g => .slice (some ⟨g, 0, none⟩) n n, fun g w => Whole w g ty cs, fun _ _ _ h g => g.whole h⟩
section
variable {P : Program} {ops : Array Oper} {W : World} {Q : Act → World → Prop} {o : Oper} {rest : List Oper} {fs : List (Fact Grows)} {ks : Known} {a : Act}
theorem Zsg (n ty : Nat) (cs : Array Value) (hw : Region.wanted o (yielded ops a.tmps) = true) (h1 : ∀ w, Grows W w → (execOp a.eval o).run P w = .ok (.value (.slice (some ⟨w.heap.size, 0, none⟩) n n)) (w.alloc (.cells cs ty)))
 (h2 : ∀ g, wpF P ops Grows W Q rest fs ((o.dst, fun w => Whole w g ty cs) :: ks) (a.put o.dst (.slice (some ⟨g, 0, none⟩) n n))) :
 wpF P ops Grows W Q (o :: rest) (Zj5 n ty cs :: fs) ks a := by
 unfold wpF fStep
 rw [if_pos hw]
 refine ⟨fun w hW hk => ?_, fun x => h2 x⟩
 unfold gives
 rw [h1 w hW]
 exact ⟨Zb _ _, w.heap.size, rfl, Whole.made _ _ _⟩
end
theorem Zh6 (bs : List UInt8) (h : bs.length ≤ 1000000) : (allB bs 0).1.length ≤ 1000000 ∧ (allB bs 0).2.1 ≤ 1000000 := by
 have := all_end bs.length bs 0 (Nat.le_refl _)
 omega
theorem Zja {w w' : World} {row : Option Nat} {B : Nat} (hg : w.grownBy w' row) (hB : B ≤ w.heap.size) (hr : ∀ g, row = some g → B ≤ g) : Below B w w' := by
 have hs : Zc (fun k => row = some k) w w' := (Zc.refl (fun k => row = some k) w).grown hg fun g e => e
 exact hs.below hB fun k hk e => by have := hr k e; omega
attribute [local irreducible] wpF
section
variable {d r K : Nat} {w0 w w' : World} {out : Nat → Prop} {m mm : Dk} {x : Rf}
set_option maxRecDepth 100000 in
set_option maxHeartbeats 8000000 in
theorem Zof (h : Two w0.heap.size w0 w d r out m x) (hG : G2 K m x) (hK : K ≤ 100000) (n : Int) (hn : -9223372036854775808 ≤ n ∧ n ≤ 9223372036854775807) :
 Calls Tryz.prog 23 #[.pointer (some ⟨r, 0, none⟩), .int .i64 n] w fun e w' => ∃ A c l, e = .returned (.tuple #[.slice A l.length c, .int .i64 (Jg m n).2.1, .int .i64 (Jg m n).2.2]) ∧ FnOwn w.heap.size w' A l.length c l ∧ l.map (·.1) = (Jg m n).1 ∧ Grows w w' := by
 have HN := hid (fun w' => Zbg w' n)
 have HF := hid (fun w' => Zeu w' n hn)
 have hsd := hG.sized (nmS n)
 have HZ := hid (fun w' (hg : Grows w w') => Zco (h.grow hg) hG hK n)
 unfold Jg
 obtain ⟨sv, hsv⟩ : ∃ q, (m.size (nmS n)).1 = q := ⟨_, rfl⟩
 rw [hsv] at hsd HZ ⊢
 obtain ⟨⟨rb, re⟩, hrd⟩ : ∃ q, m.read (nmS n) 0 sv = q := ⟨_, rfl⟩
 have hrlen := fun h0 => Za4 (m := m) (n := nmS n) (x := 0) (k := sv) h0
 rw [hrd] at hrlen ⊢
 dsimp only at hrlen ⊢
 have hrr := fun w' (hg : Grows w w') => (h.grow hg).readsR hG hK 0 sv (by omega) (by omega) hrd
 obtain ⟨bs, hbs⟩ : ∃ q, rb.getD [] = q := ⟨_, rfl⟩
 unfold GotTo at hrr
 dsimp only at hrr
 rw [hbs] at hrr ⊢
 obtain ⟨s, hs⟩ : ∃ s : ByteArray, (⟨(nmS n).toArray⟩ : ByteArray) = s := ⟨_, rfl⟩
 rw [hs] at HN hrr
 have HRR := hid hrr
 have hbl : re = 0 → bs.length ≤ 1000000 := fun h0 => by
  obtain ⟨b, e, hl⟩ := hrlen h0
  rw [← hbs, e]
  show b.length ≤ 1000000
  omega
 clear h hG hK hsv hrd hrlen hrr hbs hs hsd hn
 obtain ⟨i1, hi1⟩ : ∃ i, Tryz.prog.info? 53 = some i ∧ i.zero = some (.agg #[.int .i64 0, .int .i64 0, .int .i64 0, .string ⟨#[]⟩, .int .i64 0, .int .i64 0, .int .i64 0, .slice none 0 0, .slice none 0 0]) ∧ i.size = 9 ∧ i.bytes = 112 := by
  have h := infoFnd
  cases hq : Tryz.prog.info? 53 with
  | none => rw [hq] at h; cases h
  | some i =>
    rw [hq] at h
    simp only [Option.map_some, Option.some.injEq, Prod.mk.injEq] at h
    exact ⟨i, rfl, h.1, h.2.1, h.2.2⟩
 have HI1 := hid hi1
 clear hi1
 by_cases hre : re = 0
 rotate_left 1
 ·have hzb : (re != 0) = true := by rw [bne_iff_ne]; exact hre
  rw [if_neg hre]
  clear hre hbl
  go_enter Tryz.func23, Tryz.ntmps23
  go_wp2_with (fail)
  refine (HN.out w).mono ?_
  rintro e w1 ⟨rfl, hg1⟩
  have HG1 := hid hg1
  clear hg1
  go_wp2_with (fail)
  refine (HZ.out w1 HG1.out).mono ?_
  rintro e w2 ⟨rfl, hg2⟩
  have HG2 := hid (Grows.trans HG1.out hg2)
  clear hg2 HG1
  go_wp2_with (fail)
  refine (HRR.out w2 HG2.out).mono ?_
  rintro e w3 ⟨QA, qc, rfl, hsl, hg⟩
  have HSL := hid hsl
  have HG3 := hid (Grows.trans HG2.out hg)
  clear hsl hg HG2
  go_wp2_with (fail)
  exact bodyPost_ret (v := .tuple #[.slice none 0 0, .int .i64 0, .int .i64 re]) (by simp [results, Tryz.results23, go_sem]) rfl
   ⟨none, 0, [], rfl, FnOwn.nil _ _, rfl, HG3.out⟩
 subst hre
 rw [if_pos rfl]
 have HBL := hid (hbl rfl)
 clear hbl
 obtain ⟨ts, hts⟩ : ∃ q, (allB bs 0).1 = q := ⟨_, rfl⟩
 obtain ⟨bd, hbd⟩ : ∃ q, (allB bs 0).2.1 = q := ⟨_, rfl⟩
 rw [hts, hbd]
 have hlen9 : ts.length ≤ 1000000 ∧ bd ≤ 1000000 := by
  rw [← hts, ← hbd]
  exact Zh6 bs HBL.out
 have HSC := hid (fun (A : Option Addr) (c : Nat) (w : World) (hs : Sl w A bs.length c bs) => Zlh A bs.length c bs w hs HBL.out)
 rw [hts, hbd] at HSC
 obtain ⟨e1, he1⟩ : ∃ q, (((allB bs 0).2.2.1 : Nat) : Int) = q := ⟨_, rfl⟩
 obtain ⟨e2, he2⟩ : ∃ q, (((allB bs 0).2.2.2 : Nat) : Int) = q := ⟨_, rfl⟩
 rw [he1, he2] at HSC
 have HTL := hid hlen9
 clear hts hbd hlen9 he1 he2
 obtain ⟨bg, hbg⟩ : ∃ q, Zef ts n = q := ⟨_, rfl⟩
 rw [hbg]
 have HBG := hid hbg
 clear hbg
 by_cases ht0 : ts.length = 0
 ·obtain rfl : bg = false := by
   rw [← HBG.out, List.eq_nil_of_length_eq_zero ht0]
   rfl
  rw [if_neg (by decide)]
  obtain rfl := List.eq_nil_of_length_eq_zero ht0
  simp only [List.length_nil] at HSC
  clear ht0
  go_enter Tryz.func23, Tryz.ntmps23
  go_wp2_with (fail)
  refine (HN.out w).mono ?_
  rintro e w1 ⟨rfl, hg1⟩
  have HG1 := hid hg1
  clear hg1
  go_wp2_with (fail)
  refine (HZ.out w1 HG1.out).mono ?_
  rintro e w2 ⟨rfl, hg2⟩
  have HG2 := hid (Grows.trans HG1.out hg2)
  clear hg2 HG1
  go_wp2_with (fail)
  refine (HRR.out w2 HG2.out).mono ?_
  rintro e w3 ⟨QA, qc, rfl, hsl, hg⟩
  have HSL := hid hsl
  have HG3 := hid (Grows.trans HG2.out hg)
  clear hsl hg HG2
  go_wp2_with (fail)
  refine (HSC.out QA qc w3 HSL.out).mono ?_
  rintro e w4 ⟨TA, tc, hh, rfl, ho4, hbo4, hb4⟩
  have HI4 := hid (Zaw rfl ho4 hbo4)
  have HG4 := hid (Grows.trans HG3.out hb4)
  clear ho4 hbo4 hb4 HG3 HSL
  go_wp2_with (fail)
  refine Zf (E := Grows) [Za (.slice TA 0 tc), Za (.int .i64 0), Za (.bool true), Za (.bool true), Za undef, Za undef, Za undef, Za undef, Za undef, Za (.bool true), Za (.bool true), Za undef, Za undef, Za undef, Za undef, Za undef, Za undef, Za undef, Za undef, Za undef, Za (.bool true)] (by kernel_rfl) (by kernel_rfl) (fun _ _ _ => Grows.trans) (Ze _) ?_
  iterate 4
   refine f_val _ (by rfl) ?_ ?_
   ·intro w' hC; clear hC; go_simp
   simp only [Pu]
  iterate 5
   refine Zch (by rfl) ?_
   simp only [Pu]
  iterate 2
   refine f_val _ (by rfl) ?_ ?_
   ·intro w' hC; clear hC; go_simp
   simp only [Pu]
  iterate 9
   refine Zch (by rfl) ?_
   simp only [Pu]
  refine f_val _ (by rfl) ?_ ?_
  ·intro w' hC; clear hC; go_simp
  simp only [Pu]
  refine Zv ?_
  intro w5 hC hks
  have HG5 := hid (Grows.trans HG4.out hC)
  clear hC hks
  go_wp2_with (fail)
  exact bodyPost_ret (v := .tuple #[.slice none 0 0, .int .i64 0, .int .i64 22]) (by simp [results, Tryz.results23, go_sem]) rfl
   ⟨none, 0, [], rfl, FnOwn.nil _ _, rfl, HG5.out⟩
 obtain ⟨kk, hkk⟩ : ∃ kk, ts.length = kk := ⟨_, rfl⟩
 rw [hkk] at HSC HTL ht0
 have HTK := hid hkk
 have hz : ¬ ((kk : Nat) : Int) = 0 := by omega
 have hzb : (((kk : Nat) : Int) == 0) = false := by rw [beq_eq_false_iff_ne]; omega
 have htp : 0 < kk := by omega
 have htp' : (0 : Int) < ((kk : Nat) : Int) := by omega
 have HT0 := hid htp
 clear ht0 hkk
 obtain ⟨⟨t1, t2, tb⟩, hd0⟩ : ∃ q, ts.getD 0 (0, 0, []) = q := ⟨_, rfl⟩
 have hbe : bg = (decide (t1 = 0) && decide (tb = Zw n)) := by
  rw [← HBG.out]
  match ts, (show 0 < ts.length by rw [HTK.out]; exact HT0.out), hd0 with
  | t :: ts, _, hd0 =>
    rw [List.getD_cons_zero] at hd0
    subst hd0
    rfl
 have HD0 := hid hd0
 have HBE := hid hbe
 clear hd0 hbe
 by_cases h10 : t1 = 0
 rotate_left 1
 ·obtain rfl : bg = false := by rw [HBE.out, decide_eq_false h10, Bool.false_and]
  rw [if_neg (by decide)]
  have hq : ((t1 : Int) != 0) = true := by rw [bne_iff_ne]; omega
  have hq' : ¬ ((t1 : Int) = 0) := by omega
  clear h10
  go_enter Tryz.func23, Tryz.ntmps23
  go_wp2_with (fail)
  refine (HN.out w).mono ?_
  rintro e w1 ⟨rfl, hg1⟩
  have HG1 := hid hg1
  clear hg1
  go_wp2_with (fail)
  refine (HZ.out w1 HG1.out).mono ?_
  rintro e w2 ⟨rfl, hg2⟩
  have HG2 := hid (Grows.trans HG1.out hg2)
  clear hg2 HG1
  go_wp2_with (fail)
  refine (HRR.out w2 HG2.out).mono ?_
  rintro e w3 ⟨QA, qc, rfl, hsl, hg⟩
  have HSL := hid hsl
  have HG3 := hid (Grows.trans HG2.out hg)
  clear hsl hg HG2
  go_wp2_with (fail)
  refine (HSC.out QA qc w3 HSL.out).mono ?_
  rintro e w4 ⟨TA, tc, hh, rfl, ho4, hbo4, hb4⟩
  have HI4 := hid (Zaw HTK.out ho4 hbo4)
  have HG4 := hid (Grows.trans HG3.out hb4)
  clear ho4 hbo4 hb4 HG3 HSL
  go_wp2_with (fail)
  obtain ⟨ad, B0, m0, d0, rfl, x1, x2, x3, hsl0⟩ := HI4.out.spot (i := 0) HT0.out
  rw [HD0.out] at x1 x2 hsl0
  simp only [Nat.zero_mul, Addr.add_zero'] at x1 x2 x3
  have HX := hid (fun w' (hg : Grows w4 w') => And.intro (x1 w' hg) (And.intro (x3 w' hg) (hsl0.grow hg)))
  clear x1 x2 x3 hsl0
  refine Zf (E := Grows) [Za (.slice (some ad) kk tc), Za (.int .i64 (kk : Nat)), Za (.bool false), Za (.bool false), Za (.slice (some ad) kk tc), Za (.pointer (some ad)), Za (.pointer (some ad)), Za (.int .i64 (t1 : Nat)), Za (.bool true), Za (.bool true), Za (.bool true), Za undef, Za undef, Za undef, Za undef, Za undef, Za undef, Za undef, Za undef, Za undef, Za (.bool true)] (by kernel_rfl) (by kernel_rfl) (fun _ _ _ => Grows.trans) (Ze _) ?_
  iterate 7
   refine f_val _ (by rfl) ?_ ?_
   ·intro w' hC; clear hC; go_simp
   simp only [Pu]
  refine f_val _ (by rfl) ?_ ?_
  ·intro w' hC; obtain ⟨z1, z3, _⟩ := HX.out w' hC; clear hC; go_simp
  simp only [Pu]
  iterate 3
   refine f_val _ (by rfl) ?_ ?_
   ·intro w' hC; clear hC; go_simp
   simp only [Pu]
  iterate 9
   refine Zch (by rfl) ?_
   simp only [Pu]
  refine f_val _ (by rfl) ?_ ?_
  ·intro w' hC; clear hC; go_simp
  simp only [Pu]
  refine Zv ?_
  intro w5 hC hks
  have HG5 := hid (Grows.trans HG4.out hC)
  clear hC hks
  go_wp2_with (fail)
  exact bodyPost_ret (v := .tuple #[.slice none 0 0, .int .i64 0, .int .i64 22]) (by simp [results, Tryz.results23, go_sem]) rfl
   ⟨none, 0, [], rfl, FnOwn.nil _ _, rfl, HG5.out⟩
 subst h10
 rw [decide_eq_true (Eq.refl 0), Bool.true_and] at HBE
 by_cases hfs : tb = Zw n
 rotate_left 1
 ·obtain rfl : bg = false := by rw [HBE.out, decide_eq_false hfs]
  rw [if_neg (by decide)]
  have HNE := hid (show ¬ tb = Zw n from hfs)
  clear hfs
  go_enter Tryz.func23, Tryz.ntmps23
  go_wp2_with (fail)
  refine (HN.out w).mono ?_
  rintro e w1 ⟨rfl, hg1⟩
  have HG1 := hid hg1
  clear hg1
  go_wp2_with (fail)
  refine (HZ.out w1 HG1.out).mono ?_
  rintro e w2 ⟨rfl, hg2⟩
  have HG2 := hid (Grows.trans HG1.out hg2)
  clear hg2 HG1
  go_wp2_with (fail)
  refine (HRR.out w2 HG2.out).mono ?_
  rintro e w3 ⟨QA, qc, rfl, hsl, hg⟩
  have HSL := hid hsl
  have HG3 := hid (Grows.trans HG2.out hg)
  clear hsl hg HG2
  go_wp2_with (fail)
  refine (HSC.out QA qc w3 HSL.out).mono ?_
  rintro e w4 ⟨TA, tc, hh, rfl, ho4, hbo4, hb4⟩
  have HI4 := hid (Zaw HTK.out ho4 hbo4)
  have HG4 := hid (Grows.trans HG3.out hb4)
  clear ho4 hbo4 hb4 HG3 HSL
  go_wp2_with (fail)
  obtain ⟨ad, B0, m0, d0, rfl, x1, x2, x3, hsl0⟩ := HI4.out.spot (i := 0) HT0.out
  rw [HD0.out] at x1 x2 hsl0
  simp only [Nat.zero_mul, Addr.add_zero'] at x1 x2 x3
  have HX := hid (fun w' (hg : Grows w4 w') => And.intro (x1 w' hg) (And.intro (x3 w' hg) (hsl0.grow hg)))
  clear x1 x2 x3 hsl0
  refine Zf (E := Grows) [Za (.slice (some ad) kk tc), Za (.int .i64 (kk : Nat)), Za (.bool false), Za (.bool false), Za (.slice (some ad) kk tc), Za (.pointer (some ad)), Za (.pointer (some ad)), Za (.int .i64 0), Za (.bool false), Za (.bool false), Za (.bool false), Za (.slice (some ad) kk tc), Za (.pointer (some ad)), Za (.pointer (some ⟨ad.block, ad.off + 2, none⟩)), Za (.slice B0 m0 d0), Za (.string ⟨(tb).toArray⟩), Za (.int .i64 n), Yv (Zw n), Za (.string ⟨(Zw n).toArray⟩), Za (.bool true), Za (.bool true)] (by kernel_rfl) (by kernel_rfl) (fun _ _ _ => Grows.trans) (Ze _) ?_
  iterate 7
   refine f_val _ (by rfl) ?_ ?_
   ·intro w' hC; clear hC; go_simp
   simp only [Pu]
  refine f_val _ (by rfl) ?_ ?_
  ·intro w' hC; obtain ⟨z1, z3, _⟩ := HX.out w' hC; clear hC; go_simp
  simp only [Pu]
  iterate 6
   refine f_val _ (by rfl) ?_ ?_
   ·intro w' hC; clear hC; go_simp
   simp only [Pu]
  refine f_val _ (by rfl) ?_ ?_
  ·intro w' hC; obtain ⟨z1, z3, _⟩ := HX.out w' hC; clear hC; go_simp
  simp only [Pu]
  refine Y6 _ (by rfl) ?_ ?_
  ·intro w' hC hk; exact Z2 rfl rfl (HX.out w' hC).2.2
  simp only [Pu]
  refine f_val _ (by rfl) ?_ ?_
  ·intro w' hC; clear hC; go_simp
  simp only [Pu]
  refine f_new (Zw n) 59 #[.int .i64 n] (by rfl) (by intro w' hC; clear hC; go_simp) ?_ ?_
  ·intro w' hC hks; exact (HF.out w').mono fun e w'' ⟨he, hsl, hgr⟩ => ⟨_, 5, 5, he, hsl, hgr⟩
  intro FA fc
  simp only [Pu]
  refine Y6 _ (by rfl) ?_ ?_
  ·intro w' hC hk; exact Z2 rfl rfl (Known.get hk 0 rfl (by rfl))
  simp only [Pu]
  refine f_val _ (by rfl) ?_ ?_
  ·intro w' hC; have hne := HNE.out; clear hC; go_simp
  simp only [Pu]
  refine f_val _ (by rfl) ?_ ?_
  ·intro w' hC; clear hC; go_simp
  simp only [Pu]
  refine Zv ?_
  intro w5 hC hks
  have HG5 := hid (Grows.trans HG4.out hC)
  clear hC hks
  go_wp2_with (fail)
  exact bodyPost_ret (v := .tuple #[.slice none 0 0, .int .i64 0, .int .i64 22]) (by simp [results, Tryz.results23, go_sem]) rfl
   ⟨none, 0, [], rfl, FnOwn.nil _ _, rfl, HG5.out⟩
 obtain rfl : bg = true := by rw [HBE.out, decide_eq_true hfs]
 rw [if_pos rfl]
 obtain ⟨res1, hres1⟩ : ∃ q, fnsP (ts.drop 1) = q := ⟨_, rfl⟩
 obtain ⟨res2, hres2⟩ : ∃ q, ((bd + badP (ts.drop 1) : Nat) : Int) = q := ⟨_, rfl⟩
 rw [hres1, hres2]
 have HRES := hid (And.intro hres1 hres2)
 clear hres1 hres2
 go_enter Tryz.func23, Tryz.ntmps23
 go_wp2_with (fail)
 refine (HN.out w).mono ?_
 rintro e w1 ⟨rfl, hg1⟩
 have HG1 := hid hg1
 clear hg1
 go_wp2_with (fail)
 refine (HZ.out w1 HG1.out).mono ?_
 rintro e w2 ⟨rfl, hg2⟩
 have HG2 := hid (Grows.trans HG1.out hg2)
 clear hg2 HG1
 go_wp2_with (fail)
 refine (HRR.out w2 HG2.out).mono ?_
 rintro e w3 ⟨QA, qc, rfl, hsl, hg⟩
 have HSL := hid hsl
 have HG3 := hid (Grows.trans HG2.out hg)
 clear hsl hg HG2
 go_wp2_with (fail)
 refine (HSC.out QA qc w3 HSL.out).mono ?_
 rintro e w4 ⟨TA, tc, hh, rfl, ho4, hbo4, hb4⟩
 have HI4 := hid (Zaw HTK.out ho4 hbo4)
 have HG4 := hid (Grows.trans HG3.out hb4)
 clear ho4 hbo4 hb4 HG3 HSL
 go_wp2_with (fail)
 obtain ⟨ad, B0, m0, d0, rfl, x1, x2, x3, hsl0⟩ := HI4.out.spot (i := 0) HT0.out
 rw [HD0.out] at x1 x2 hsl0
 simp only [Nat.zero_mul, Addr.add_zero'] at x1 x2 x3
 have HX := hid (fun w' (hg : Grows w4 w') => And.intro (x1 w' hg) (And.intro (x3 w' hg) (hsl0.grow hg)))
 clear x1 x2 x3 hsl0
 subst hfs
 refine Zf (E := Grows) [Za (.slice (some ad) kk tc), Za (.int .i64 (kk : Nat)), Za (.bool false), Za (.bool false), Za (.slice (some ad) kk tc), Za (.pointer (some ad)), Za (.pointer (some ad)), Za (.int .i64 0), Za (.bool false), Za (.bool false), Za (.bool false), Za (.slice (some ad) kk tc), Za (.pointer (some ad)), Za (.pointer (some ⟨ad.block, ad.off + 2, none⟩)), Za (.slice B0 m0 d0), Za (.string ⟨(Zw n).toArray⟩), Za (.int .i64 n), Yv (Zw n), Za (.string ⟨(Zw n).toArray⟩), Za (.bool false), Za (.bool false)] (by kernel_rfl) (by kernel_rfl) (fun _ _ _ => Grows.trans) (Ze _) ?_
 iterate 7
  refine f_val _ (by rfl) ?_ ?_
  ·intro w' hC; clear hC; go_simp
  simp only [Pu]
 refine f_val _ (by rfl) ?_ ?_
 ·intro w' hC; obtain ⟨z1, z3, _⟩ := HX.out w' hC; clear hC; go_simp
 simp only [Pu]
 iterate 6
  refine f_val _ (by rfl) ?_ ?_
  ·intro w' hC; clear hC; go_simp
  simp only [Pu]
 refine f_val _ (by rfl) ?_ ?_
 ·intro w' hC; obtain ⟨z1, z3, _⟩ := HX.out w' hC; clear hC; go_simp
 simp only [Pu]
 refine Y6 _ (by rfl) ?_ ?_
 ·intro w' hC hk; exact Z2 rfl rfl (HX.out w' hC).2.2
 simp only [Pu]
 refine f_val _ (by rfl) ?_ ?_
 ·intro w' hC; clear hC; go_simp
 simp only [Pu]
 refine f_new (Zw n) 59 #[.int .i64 n] (by rfl) (by intro w' hC; clear hC; go_simp) ?_ ?_
 ·intro w' hC hks; exact (HF.out w').mono fun e w'' ⟨he, hsl, hgr⟩ => ⟨_, 5, 5, he, hsl, hgr⟩
 intro FA fc
 simp only [Pu]
 refine Y6 _ (by rfl) ?_ ?_
 ·intro w' hC hk; exact Z2 rfl rfl (Known.get hk 0 rfl (by rfl))
 simp only [Pu]
 iterate 2
  refine f_val _ (by rfl) ?_ ?_
  ·intro w' hC; clear hC; go_simp
  simp only [Pu]
 refine Zv ?_
 intro w5 hC hks
 have HG5 := hid (Grows.trans HG4.out hC)
 have HI5 := hid (Items.grow hC HI4.out)
 clear hC hks HX HI4 HG4
 go_wp2_with (fail)
 go_loopw [10, 13, 14] (fun vb vo vi wr => ∃ (LA : Option Addr) (lc : Nat) (l : List (Fn × Fh)) (i b : Nat), 1 ≤ i ∧ i ≤ kk ∧ b ≤ bd + i ∧ l.length ≤ i ∧ vb = .int .i64 (b : Nat) ∧ vo = .slice LA l.length lc ∧ vi = .int .i64 (i : Nat) ∧ Hid (l.map (·.1) = fnsP ((ts.take i).drop 1) ∧ b = bd + badP ((ts.take i).drop 1)) ∧ Hid (FnOwn w5.heap.size wr LA l.length lc l) ∧ Hid (Grows w5 wr)) (fun _ _ i _ => kk - (intOf i).toNat)
 case atStart => exact ⟨none, 0, [], 1, bd, by omega, by omega, by omega, Nat.zero_le _, rfl, rfl, rfl, hid ⟨by
  rw [show (ts.take 1).drop 1 = [] from List.eq_nil_of_length_eq_zero (by rw [List.length_drop, List.length_take]; omega)]
  rfl, by
  rw [show (ts.take 1).drop 1 = [] from List.eq_nil_of_length_eq_zero (by rw [List.length_drop, List.length_take]; omega)]
  rfl⟩, hid (FnOwn.nil _ _), hid (Grows.refl _)⟩
 case round =>
  obtain ⟨LA, lc, l, i, b, hi1, hi2, hb, hl, rfl, rfl, rfl, HP, HO, HG⟩ := hrel
  by_cases hlt : i < kk
  rotate_left 1
  ·obtain rfl : i = kk := by omega
   have hlt' : ¬ (((i : Nat) : Int) < ((i : Nat) : Int)) := by omega
   go_wp2_with (fail)
   have hp := HP.out
   rw [show ts.take i = ts from List.take_of_length_le (by rw [HTK.out]; exact Nat.le_refl _)] at hp
   have hb2 : ((b : Nat) : Int) = res2 := by rw [hp.2]; exact HRES.out.2
   exact bodyPost_ret (v := .tuple #[.slice LA l.length lc, .int .i64 (b : Nat), .int .i64 0]) (by simp [results, Tryz.results23, go_sem]) rfl
    ⟨LA, lc, l, by rw [hb2], HO.out.low HG5.out.size, hp.1.trans HRES.out.1, Grows.trans HG5.out HG.out⟩
  have k1 : (i : Int) < ((kk : Nat) : Int) := by omega
  have k0 : (0 : Int) ≤ (i : Int) := by omega
  have htk := Zlg hi1 (show i < ts.length by rw [HTK.out]; exact hlt)
  obtain ⟨ad', B1, m1, d1, hA1, x1, x2, x3, hsl1⟩ := (Items.grow HG.out HI5.out).spot hlt
  obtain rfl : ad = ad' := Option.some.inj hA1
  clear hA1
  obtain ⟨⟨a1, a2, ab⟩, hai⟩ : ∃ q, ts.getD i (0, 0, []) = q := ⟨_, rfl⟩
  rw [hai] at x1 x2 hsl1 htk
  have hnx1 := Zod ((ts.take i).drop 1) (a1, a2, ab)
  have hnx2 := Zoe ((ts.take i).drop 1) (a1, a2, ab)
  rw [← htk] at hnx1 hnx2
  have HNX := hid (And.intro hnx1 hnx2)
  have HX := hid (fun w' (hg : Grows wr w') => And.intro (x1 w' hg) (And.intro (x2 w' hg) (And.intro (x3 w' hg) (hsl1.grow hg))))
  have y3 := x3 wr (Grows.refl _)
  have HGT := hid (Zc1 B1 m1 d1 ab wr hsl1)
  have ii : IntKind.i64.wrap ((i : Int) + 1) = (i : Int) + 1 := IntWalk.i64_in _ (by have := HTL.out; omega)
  have bb : IntKind.i64.wrap ((b : Int) + 1) = (b : Int) + 1 := IntWalk.i64_in _ (by have := HTL.out; omega)
  obtain ⟨so, hso⟩ : ∃ q, (getR ab).isSome = q := ⟨_, rfl⟩
  obtain ⟨ro, hro⟩ : ∃ q, (getR ab).getD Rc.none = q := ⟨_, rfl⟩
  rw [hso, hro] at HGT
  rw [hso] at HNX
  have HRO := hid (show rcOf ab = ro from hro)
  have HK := hid (And.intro hi2 (And.intro hb hl))
  have HLT := hid hlt
  clear x1 x2 x3 hsl1 htk hnx1 hnx2 hai hso hro hi2 hb hl
  go_wp2_with (fail)
  refine HGT.out.mono ?_
  rintro e w6 ⟨RA, rn, rc, BA, bn, bc, rfl, hr6, hb6⟩
  have ga7 := Zb w6 (.cells #[.int .i64 ro.kind, .string ⟨ro.key.toArray⟩, .int .i64 ro.id, .int .i64 ro.no, .int .i64 ro.size, .slice RA rn rc, .slice BA bn bc] 33)
  have hm7 := Whole.made w6 33 #[.int .i64 ro.kind, .string ⟨ro.key.toArray⟩, .int .i64 ro.id, .int .i64 ro.no, .int .i64 ro.size, .slice RA rn rc, .slice BA bn bc]
  have HR7 := hid (RcOwn.from (hr6.grow ga7) HG.out.size)
  obtain ⟨w7, hw7⟩ : ∃ u, w6.alloc (.cells #[.int .i64 ro.kind, .string ⟨ro.key.toArray⟩, .int .i64 ro.id, .int .i64 ro.no, .int .i64 ro.size, .slice RA rn rc, .slice BA bn bc] 33) = u := ⟨_, rfl⟩
  rw [hw7] at ga7 hm7 HR7
  have HG7 := hid (Grows.trans hb6 ga7)
  have HM7 := hid hm7
  clear ga7 hm7 hr6 hb6 HGT y3
  cases so with
  | false =>
    rw [if_neg (by decide), if_neg (by decide)] at HNX
    go_wp2_with (fail)
    clear hw7
    go_roundw
    case rel => exact ⟨LA, lc, l, i + 1, b + 1, by omega, by have := HLT.out; omega, by have := HK.out; omega, by have := HK.out; omega, by go_num, rfl, by go_num, hid ⟨by rw [HP.out.1, HNX.out.1, List.append_nil], by rw [HP.out.2, HNX.out.2]; omega⟩, hid (HO.out.grow HG7.out), hid (Grows.trans HG.out HG7.out)⟩
    case measure => simp [intOf]; have := HLT.out; omega
  | true =>
    rw [if_pos rfl, if_pos rfl] at HNX
    go_wp2_with (fail)
    clear hw7
    have HC := hid (show ∀ w', Grows w7 w' → (w'.cell? (ad.add (i * 3)) = some (.int .i64 (a1 : Nat)) ∧ w'.cell? { block := (ad.add (i * 3)).block, off := (ad.add (i * 3)).off + 1 } = some (.int .i64 (a2 : Nat))) ∧ w'.cell? { block := w6.heap.size, off := 0 } = some (.int .i64 ro.kind) ∧ w'.cell? { block := w6.heap.size, off := 1 } = some (.string ⟨ro.key.toArray⟩) ∧ w'.cell? { block := w6.heap.size, off := 2 } = some (.int .i64 ro.id) ∧ w'.cell? { block := w6.heap.size, off := 3 } = some (.int .i64 ro.no) ∧ w'.cell? { block := w6.heap.size, off := 4 } = some (.int .i64 ro.size) ∧ w'.cell? { block := w6.heap.size, off := 5 } = some (.slice RA rn rc) ∧ w'.cell? { block := w6.heap.size, off := 6 } = some (.slice BA bn bc) from fun w' hC => by
     have hx := hC.whole HM7.out
     have hy := HX.out w' (Grows.trans HG7.out hC)
     exact ⟨⟨hy.1, hy.2.1⟩, hx.cell 0, hx.cell 1, hx.cell 2, hx.cell 3, hx.cell 4, hx.cell 5, hx.cell 6⟩)
    refine Zh (E := Grows) 14 [Za (.slice LA l.length lc), Za (.slice (some ad) kk tc), Za (.int .i64 (i : Nat)), Za (.pointer (some (ad.add (i * 3)))), Za (.pointer (some (ad.add (i * 3)))), Za (.int .i64 (a1 : Nat)), Za (.slice (some ad) kk tc), Za (.int .i64 (i : Nat)), Za (.pointer (some (ad.add (i * 3)))), Za (.pointer (some ⟨(ad.add (i * 3)).block, (ad.add (i * 3)).off + 1, none⟩)), Za (.int .i64 (a2 : Nat)), Za (.agg #[.int .i64 ro.kind, .string ⟨ro.key.toArray⟩, .int .i64 ro.id, .int .i64 ro.no, .int .i64 ro.size, .slice RA rn rc, .slice BA bn bc]), Za (.agg #[.int .i64 (a1 : Nat), .int .i64 (a2 : Nat), .int .i64 ro.kind, .string ⟨ro.key.toArray⟩, .int .i64 ro.id, .int .i64 ro.no, .int .i64 ro.size, .slice RA rn rc, .slice BA bn bc]), Zj5 1 53 #[.int .i64 (a1 : Nat), .int .i64 (a2 : Nat), .int .i64 ro.kind, .string ⟨ro.key.toArray⟩, .int .i64 ro.id, .int .i64 ro.no, .int .i64 ro.size, .slice RA rn rc, .slice BA bn bc]] mixed (by kernel_rfl) (fun _ _ _ => Grows.trans) (Ze _) ?_
    simp only [List.take_succ_cons, List.take_zero, List.drop_succ_cons, List.drop_zero]
    iterate 5
     refine f_val _ (by rfl) ?_ ?_
     ·intro w' hC; clear hC; go_simp
     simp only [Pu]
    refine f_val _ (by rfl) ?_ ?_
    ·intro w' hC; obtain ⟨⟨z1, z2⟩, y0, y1, y2, y3, y4, y5, y6⟩ := HC.out w' hC; clear hC; go_simp
    simp only [Pu]
    iterate 4
     refine f_val _ (by rfl) ?_ ?_
     ·intro w' hC; clear hC; go_simp
     simp only [Pu]
    iterate 2
     refine f_val _ (by rfl) ?_ ?_
     ·intro w' hC; obtain ⟨⟨z1, z2⟩, y0, y1, y2, y3, y4, y5, y6⟩ := HC.out w' hC; clear hC; go_simp
     simp only [Pu]
    refine f_val _ (by rfl) ?_ ?_
    ·intro w' hC; clear hC; go_simp
    simp only [Pu]
    refine Zsg 1 53 #[.int .i64 (a1 : Nat), .int .i64 (a2 : Nat), .int .i64 ro.kind, .string ⟨ro.key.toArray⟩, .int .i64 ro.id, .int .i64 ro.no, .int .i64 ro.size, .slice RA rn rc, .slice BA bn bc] (by rfl) (by intro w' hC; clear hC; go_simp) ?_
    intro gl
    simp only [Pu]
    refine Zv ?_
    intro w8 hC hks
    have HG8 := hid (Grows.trans HG7.out hC)
    have hfe : fnE ((a1, a2, ro), (RA, rn, rc), (BA, bn, bc)) = [.int .i64 (a1 : Nat), .int .i64 (a2 : Nat), .int .i64 ro.kind, .string ⟨ro.key.toArray⟩, .int .i64 ro.id, .int .i64 ro.no, .int .i64 ro.size, .slice RA rn rc, .slice BA bn bc] := rfl
    have hlit := Known.at hks 0 rfl
    have hrow := Zrv (p := ((a1, a2, ro), (RA, rn, rc), (BA, bn, bc))) hlit
    have hone := Ziv ((a1, a2, ro), (RA, rn, rc), (BA, bn, bc))
    rw [hfe] at hrow hone
    have HR9 := hid (HR7.out.grow hC)
    have HO9 := hid (HO.out.grow HG8.out)
    have HG9 := hid (Grows.trans HG.out HG8.out)
    have HRW := hid (And.intro hrow hone)
    clear hC hks HC hlit hrow hone hfe
    go_wp2_with (first
     | (at_builtin
        refine Z0 rfl (.tmp 74) (.tmp 87) 48 rfl w5.heap.size 53 i1 (.agg #[.int .i64 0, .int .i64 0, .int .i64 0, .string ⟨#[]⟩, .int .i64 0, .int .i64 0, .int .i64 0, .slice none 0 0, .slice none 0 0]) 9 112 Tryz.underlying48 HI1.out.1 HI1.out.2.1 HI1.out.2.2.1 HI1.out.2.2.2 rfl (by decide) rfl
         HO9.out.own rfl HRW.out.1 (fun h => by cases h) HRW.out.2 (l.length + 1) rfl (by unfold maxLen; have := HK.out; have := HTL.out; omega) (by have := HK.out; have := HTL.out; omega) HG9.out.size ?_
        intro A9 c9 w9 hown9 hgrow9 hat9
        have HX9 := hid (And.intro hown9 hgrow9)
        clear hown9 hgrow9 hat9)
     | fail)
    obtain ⟨hown9, hgrow9⟩ := HX9.out
    have hbel := Zja hgrow9 HG9.out.size fun g e => (HO9.out.own.lt g e).1
    have HFO := hid (show FnOwn w5.heap.size w9 A9 (l.length + 1) c9 (l ++ [((a1, a2, ro), (RA, rn, rc), (BA, bn, bc))]) from ⟨by rw [List.length_append]; rfl, by
     rw [List.flatMap_append, List.flatMap_cons, List.flatMap_nil, List.append_nil]
     exact hown9, fun q hq => by
     rcases List.mem_append.1 hq with hq | hq
     ·exact (HO9.out.recs q hq).unlike HO9.out.own hgrow9
     ·rw [List.mem_singleton.1 hq]
      exact HR9.out.unlike HO9.out.own hgrow9⟩)
    have HGX := hid (show Grows w5 w9 from Below.trans HG9.out hbel)
    clear hown9 hgrow9 hbel
    go_roundw
    case rel => exact ⟨A9, c9, l ++ [((a1, a2, ro), (RA, rn, rc), (BA, bn, bc))], i + 1, b, by omega, by have := HLT.out; omega, by have := HK.out; omega, by rw [List.length_append]; have := HK.out; simp only [List.length_cons, List.length_nil]; omega, rfl, by rw [List.length_append]; rfl, by go_num, hid ⟨by rw [List.map_append, HP.out.1, HNX.out.1, HRO.out]; rfl, by rw [HP.out.2, HNX.out.2]; omega⟩, hid (by rw [List.length_append]; exact HFO.out), HGX⟩
    case measure => simp [intOf]; have := HLT.out; omega
end
end Go.Proofs.YtlldcogkcjnejaaGreat
