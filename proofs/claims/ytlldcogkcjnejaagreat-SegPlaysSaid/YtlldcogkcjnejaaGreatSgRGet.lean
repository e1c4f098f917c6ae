import Derived.Test.YtlldcogkcjnejaaGreatMG29
import Derived.Test.YtlldcogkcjnejaaGreatMG28
import Derived.Test.YtlldcogkcjnejaaGreatRcRefGetAny
import Derived.Test.YtlldcogkcjnejaaGreatMG33
namespace Go.Proofs.YtlldcogkcjnejaaGreat
open Go.Lib (hid)
open Go.RowKit
section
variable {m : Dk} {n x : Int}
theorem Zr7 {rb : Option (List UInt8)} {e : Int} (h : m.read (nmS n) x 4 = (rb, e)) (he : e ≠ 0) : getP m n x = (Rc.none, e) := by
 have hf : Ys m n x = (none, e) := by unfold Ys; simp [h, he]
 unfold getP
 simp [hf, he]
theorem Zr8 {bs : List UInt8} (h : m.read (nmS n) x 4 = (some bs, 0)) (hb : (Zg bs).2.2 ≠ 21) : getP m n x = (Rc.none, 22) := by
 have hf : Ys m n x = (none, 22) := by unfold Ys; simp [h, hb]
 unfold getP
 simp [hf]
theorem Zr9 {bs : List UInt8} {rb : Option (List UInt8)} (h : m.read (nmS n) x 4 = (some bs, 0)) (hb : (Zg bs).2.2 = 21) (h2 : m.read (nmS n) x (sizeN (toldN bs)) = (rb, 1)) : getP m n x = (Rc.none, 21) := by
 have hf : Ys m n x = (none, 21) := by unfold Ys; simp [h, hb, h2]
 unfold getP
 simp [hf]
theorem Zsa {bs : List UInt8} {rb : Option (List UInt8)} {e : Int} (h : m.read (nmS n) x 4 = (some bs, 0)) (hb : (Zg bs).2.2 = 21) (h2 : m.read (nmS n) x (sizeN (toldN bs)) = (rb, e)) (he : e ≠ 1) (h0 : e ≠ 0) : getP m n x = (Rc.none, e) := by
 have hf : Ys m n x = (rb, e) := by unfold Ys; simp [h, hb, h2, he]
 unfold getP
 simp [hf, h0]
theorem Zsb {bs qs : List UInt8} (h : m.read (nmS n) x 4 = (some bs, 0)) (hb : (Zg bs).2.2 = 21) (h2 : m.read (nmS n) x (sizeN (toldN bs)) = (some qs, 0)) :
 getP m n x = if (Zg qs).2.2 = 0 then (if (getR (Zg qs).1).isSome = true then ((getR (Zg qs).1).getD Rc.none, (0 : Int)) else (Rc.none, 22)) else (Rc.none, (((Zg qs).2.2 : Nat) : Int)) := by
 have hf : Ys m n x = (some qs, 0) := by unfold Ys; simp [h, hb, h2]
 unfold getP
 rw [hf]
 exact if_pos rfl
theorem Zlc {bs : List UInt8} (h : bs.length = 4) : (Zg bs).2.2 = 21 ∨ (Zg bs).2.2 = 22 := by
 unfold Zg
 rw [if_neg (by omega)]
 repeat' split
 all_goals first | exact .inl rfl | exact .inr rfl | (exfalso; omega)
end
section
variable {B d r K : Nat} {w0 w : World} {out : Nat → Prop} {m mm : Dk} {x : Rf}
set_option maxRecDepth 100000 in
set_option maxHeartbeats 8000000 in
theorem Zn9 (h : Two B w0 w d r out m x) (hG : G2 K m x) (hK : K ≤ 100000) (n a : Int) (ha : -9223372036854775808 ≤ a ∧ a ≤ 9223372036854775807) :
 Calls Tryz.prog 22 #[.pointer (some ⟨r, 0, none⟩), .int .i64 n, .int .i64 a] w fun e w' => ∃ LA ln lc BA bn bc, e = .returned (.tuple #[rcV (getP m n a).1 LA ln lc BA bn bc, .int .i64 (getP m n a).2]) ∧ RcIn w' LA ln lc BA bn bc (getP m n a).1 ∧ Grows w w' := by
 have HN := hid (fun w' => Zbg w' n)
 unfold rcV
 obtain ⟨res, hres⟩ : ∃ q, getP m n a = q := ⟨_, rfl⟩
 rw [hres]
 obtain ⟨⟨rb, ec⟩, hrd⟩ : ∃ q, m.read (nmS n) a 4 = q := ⟨_, rfl⟩
 have hlen := fun h0 => Za4 (m := m) (n := nmS n) (x := a) (k := 4) h0
 have hr1 := fun w' (hg : Grows w w') => (h.grow hg).readsR hG hK a 4 ha (by omega) hrd
 have hr2 := fun (k : Int) (hk : -9223372036854775808 ≤ k ∧ k ≤ 9223372036854775807) w' (hg : Grows w w') => (h.grow hg).readsR hG hK (n := nmS n) a k ha hk rfl
 rw [hrd] at hlen
 dsimp only at hlen
 obtain ⟨s, hs⟩ : ∃ s : ByteArray, (⟨(nmS n).toArray⟩ : ByteArray) = s := ⟨_, rfl⟩
 rw [hs] at hr1 hr2 HN
 have HR1 := hid hr1
 have HR2 := hid hr2
 unfold GotTo at HR1
 dsimp only at HR1
 have HRD := hid hrd
 have HRES := hid hres
 have hgz := Zb w (.cells #[.int .i64 0, .string ⟨#[]⟩, .int .i64 0, .int .i64 0, .int .i64 0, .slice none 0 0, .slice none 0 0] 33)
 have hzm := Whole.made w 33 #[.int .i64 0, .string ⟨#[]⟩, .int .i64 0, .int .i64 0, .int .i64 0, .slice none 0 0, .slice none 0 0]
 obtain ⟨wz, hwz⟩ : ∃ u, w.alloc (.cells #[.int .i64 0, .string ⟨#[]⟩, .int .i64 0, .int .i64 0, .int .i64 0, .slice none 0 0, .slice none 0 0] 33) = u := ⟨_, rfl⟩
 rw [hwz] at hgz hzm
 have HGZ := hid hgz
 have HZM := hid hzm
 clear h hG hK hrd hr1 hr2 hs hres hgz hzm
 by_cases hec : ec = 0
 rotate_left 1
 ·have hzb : (ec != 0) = true := by rw [bne_iff_ne]; exact hec
  obtain rfl : res = (Rc.none, ec) := by rw [← HRES.out]; exact Zr7 HRD.out hec
  clear hec hlen
  go_enter Tryz.func22, Tryz.ntmps22
  go_wp2_with (fail)
  refine (HN.out wz).mono ?_
  rintro e w1 ⟨rfl, hg1⟩
  have HG1 := hid (Grows.trans HGZ.out hg1)
  have HZ1 := hid (hg1.whole HZM.out)
  clear hg1
  go_wp2_with (fail)
  refine (HR1.out w1 HG1.out).mono ?_
  rintro e w2 ⟨HA, hc, rfl, hsl, hg⟩
  have HSL := hid hsl
  have HG2 := hid (Grows.trans HG1.out hg)
  have HZ2 := hid (hg.whole HZ1.out)
  clear hsl hg HG1 HZ1
  have zc0 := HZ2.out.cell 0
  have zf0 := HZ2.out.free 0
  have zc1 := HZ2.out.cell 1
  have zf1 := HZ2.out.free 1
  have zc2 := HZ2.out.cell 2
  have zf2 := HZ2.out.free 2
  have zc3 := HZ2.out.cell 3
  have zf3 := HZ2.out.free 3
  have zc4 := HZ2.out.cell 4
  have zf4 := HZ2.out.free 4
  have zc5 := HZ2.out.cell 5
  have zf5 := HZ2.out.free 5
  have zc6 := HZ2.out.cell 6
  have zf6 := HZ2.out.free 6
  simp only [Gt] at zc0 zc1 zc2 zc3 zc4 zc5 zc6
  go_wp2_with (fail)
  obtain ⟨W, hW, hwh, hwt⟩ := Ya HZ2.out (.int .i64 0) (.string ⟨#[]⟩) (.int .i64 0) (.int .i64 0) (.int .i64 0) (.slice none 0 0) (.slice none 0 0)
  rw [hW]
  have hbW : Below w.heap.size w W := Below.trans HG2.out (hwt.below (Nat.le_of_lt HZ2.out.lt))
  clear hW
  refine bodyPost_ret (Zk rfl _ _ w.heap.size _ _ _ _ _ _ _ _ (.int .i64 ec) rfl rfl hwh) rfl ?_
  exact ⟨none, 0, 0, none, 0, 0, rfl, (RcOwn.nil W 0 0 [] 0 0 0).inn, hbW⟩
 subst hec
 obtain ⟨bs, rfl, hbl⟩ := hlen rfl
 have hbl : bs.length = 4 := by omega
 simp only [Option.getD_some] at HR1
 rw [hbl] at HR1
 have HBL := hid hbl
 clear hlen hbl
 obtain ⟨fe, hfe⟩ : ∃ q, (Zg bs).2.2 = q := ⟨_, rfl⟩
 have HFE := hid hfe
 have hff := Zlc HBL.out
 rw [hfe] at hff
 by_cases h21 : fe = 21
 rotate_left 1
 ·obtain rfl : fe = 22 := by omega
  obtain rfl : res = (Rc.none, 22) := by rw [← HRES.out]; exact Zr8 HRD.out (by rw [HFE.out]; omega)
  clear h21 hff hfe
  go_enter Tryz.func22, Tryz.ntmps22
  go_wp2_with (fail)
  refine (HN.out wz).mono ?_
  rintro e w1 ⟨rfl, hg1⟩
  have HG1 := hid (Grows.trans HGZ.out hg1)
  have HZ1 := hid (hg1.whole HZM.out)
  clear hg1
  go_wp2_with (fail)
  refine (HR1.out w1 HG1.out).mono ?_
  rintro e w2 ⟨HA, hc, rfl, hsl, hg⟩
  have HSL := hid hsl
  have HG2 := hid (Grows.trans HG1.out hg)
  have HZ2 := hid (hg.whole HZ1.out)
  clear hsl hg HG1 HZ1
  go_wp2_with (fail)
  refine (Yc HA 4 hc bs w2 HSL.out (by omega)).mono ?_
  rintro e w3 ⟨A3, n3, c3, rfl, hs3, hb3⟩
  have HG3 := hid (Grows.trans HG2.out hb3)
  have HZ3 := hid (Grows.whole hb3 HZ2.out)
  have HSL3 := hid (HSL.out.grow hb3)
  clear hs3 hb3 HG2 HZ2 HSL
  rw [HFE.out]
  have zc0 := HZ3.out.cell 0
  have zf0 := HZ3.out.free 0
  have zc1 := HZ3.out.cell 1
  have zf1 := HZ3.out.free 1
  have zc2 := HZ3.out.cell 2
  have zf2 := HZ3.out.free 2
  have zc3 := HZ3.out.cell 3
  have zf3 := HZ3.out.free 3
  have zc4 := HZ3.out.cell 4
  have zf4 := HZ3.out.free 4
  have zc5 := HZ3.out.cell 5
  have zf5 := HZ3.out.free 5
  have zc6 := HZ3.out.cell 6
  have zf6 := HZ3.out.free 6
  simp only [Gt] at zc0 zc1 zc2 zc3 zc4 zc5 zc6
  go_wp2_with (fail)
  obtain ⟨W, hW, hwh, hwt⟩ := Ya HZ3.out (.int .i64 0) (.string ⟨#[]⟩) (.int .i64 0) (.int .i64 0) (.int .i64 0) (.slice none 0 0) (.slice none 0 0)
  rw [hW]
  have hbW : Below w.heap.size w W := Below.trans HG3.out (hwt.below (Nat.le_of_lt HZ3.out.lt))
  clear hW
  refine bodyPost_ret (Zk rfl _ _ w.heap.size _ _ _ _ _ _ _ _ (.int .i64 22) rfl rfl hwh) rfl ?_
  exact ⟨none, 0, 0, none, 0, 0, rfl, (RcOwn.nil W 0 0 [] 0 0 0).inn, hbW⟩
 subst h21
 clear hff hfe
 obtain ⟨L, hL⟩ : ∃ L, toldN bs = L := ⟨_, rfl⟩
 have hLb : L < 65536 := by rw [← hL]; unfold toldN; have := (bs.getD 0 0).toNat_lt; have := (bs.getD 1 0).toNat_lt; omega
 obtain ⟨z, hz⟩ : ∃ z, sizeN (L : Int) = z := ⟨_, rfl⟩
 have hzb : -9223372036854775808 ≤ z ∧ z ≤ 9223372036854775807 := by rw [← hz]; unfold sizeN; split <;> omega
 have HSN := hid (fun w' => Yf (L : Int) w' (by omega) (by omega))
 rw [hz] at HSN
 have HZZ := hid (show z ≤ 8200 by rw [← hz]; exact Zem _)
 have hrz := HR2.out z hzb
 obtain ⟨⟨qb, qe⟩, hq⟩ : ∃ q, m.read (nmS n) a z = q := ⟨_, rfl⟩
 rw [hq] at hrz
 have HQ := hid hrz
 unfold GotTo at HQ
 dsimp only at HQ
 have HQR := hid (show m.read (nmS n) a (sizeN (toldN bs)) = (qb, qe) by rw [hL, hz]; exact hq)
 have HQL := hid (fun h0 : (m.read (nmS n) a z).2 = 0 => Za4 (m := m) (n := nmS n) (x := a) (k := z) h0)
 have HQE := hid hq
 obtain ⟨b0, b1, b2, b3, hbs⟩ : ∃ b0 b1 b2 b3, bs = [b0, b1, b2, b3] := by
  have := HBL.out
  match bs, this with
  | [b0, b1, b2, b3], _ => exact ⟨b0, b1, b2, b3, rfl⟩
 have hT : 256 * b0.toNat + b1.toNat = L := by rw [← hL, hbs]; rfl
 have p0 := b0.toNat_lt
 have p1 := b1.toNat_lt
 have w0' : IntKind.i64.wrap (b0.toNat : Int) = (b0.toNat : Int) := IntWalk.i64_in _ (by omega)
 have w1' : IntKind.i64.wrap (b1.toNat : Int) = (b1.toNat : Int) := IntWalk.i64_in _ (by omega)
 have w2' : IntKind.i64.wrap (256 * (b0.toNat : Int)) = 256 * (b0.toNat : Int) := IntWalk.i64_in _ (by omega)
 have w3' : IntKind.i64.wrap (256 * (b0.toNat : Int) + (b1.toNat : Int)) = (L : Int) := (IntWalk.i64_in _ (by omega)).trans (by omega)
 have HW := hid (And.intro w0' (And.intro w1' (And.intro w2' w3')))
 have HBS := hid hbs
 clear hL hLb hz hzb hrz hq hbs hT p0 p1 w0' w1' w2' w3'
 by_cases hq1 : qe = 1
 ·subst hq1
  obtain rfl : res = (Rc.none, 21) := by rw [← HRES.out]; exact Zr9 HRD.out HFE.out HQR.out
  go_enter Tryz.func22, Tryz.ntmps22
  go_wp2_with (fail)
  refine (HN.out wz).mono ?_
  rintro e w1 ⟨rfl, hg1⟩
  have HG1 := hid (Grows.trans HGZ.out hg1)
  have HZ1 := hid (hg1.whole HZM.out)
  clear hg1
  go_wp2_with (fail)
  refine (HR1.out w1 HG1.out).mono ?_
  rintro e w2 ⟨HA, hc, rfl, hsl, hg⟩
  have HSL := hid hsl
  have HG2 := hid (Grows.trans HG1.out hg)
  have HZ2 := hid (hg.whole HZ1.out)
  clear hsl hg HG1 HZ1
  go_wp2_with (fail)
  refine (Yc HA 4 hc bs w2 HSL.out (by omega)).mono ?_
  rintro e w3 ⟨A3, n3, c3, rfl, hs3, hb3⟩
  have HG3 := hid (Grows.trans HG2.out hb3)
  have HZ3 := hid (Grows.whole hb3 HZ2.out)
  have HSL3 := hid (HSL.out.grow hb3)
  clear hs3 hb3 HG2 HZ2 HSL
  rw [HFE.out]
  go_wp2_with (fail)
  obtain ⟨ad, rfl, _, _⟩ := HSL3.out.bytes.spot (k := 0) (by omega)
  have HC := hid (show ∀ w', Grows w3 w' → w'.cell? ad = some (.int .u8 (b0.toNat : Nat)) ∧ w'.cell? { block := ad.block, off := ad.off + (0 + 1) } = some (.int .u8 (b1.toNat : Nat)) from fun w' hC => by
   have hh := HSL3.out.grow hC
   rw [HBS.out] at hh
   have := Zi hh
   exact ⟨this.2.1, this.2.2.1⟩)
  refine Zf (E := Grows) [Za (.slice (some ad) 4 hc), Za (.pointer (some ad)), Za (.int .u8 (b0.toNat : Nat)), Za (.int .i64 (b0.toNat : Nat)), Za (.int .i64 (256 * (b0.toNat : Nat))), Za (.slice (some ad) 4 hc), Za (.pointer (some (ad.add 1))), Za (.int .u8 (b1.toNat : Nat)), Za (.int .i64 (b1.toNat : Nat)), Za (.int .i64 (L : Nat)), Za (.int .i64 z), Za (.int .i64 z)] (by kernel_rfl) (by kernel_rfl) (fun _ _ _ => Grows.trans) (Ze _) ?_
  iterate 2
   refine f_val _ (by rfl) ?_ ?_
   ·intro w' hC; clear hC; go_simp
   simp only [Pu]
  refine f_val _ (by rfl) ?_ ?_
  ·intro w' hC; obtain ⟨x0, x1⟩ := HC.out w' hC; clear hC; go_simp
  simp only [Pu]
  iterate 2
   refine f_val _ (by rfl) ?_ ?_
   ·intro w' hC; obtain ⟨x0, x1, x2, x3⟩ := HW.out; clear hC; go_simp
   simp only [Pu]
  iterate 2
   refine f_val _ (by rfl) ?_ ?_
   ·intro w' hC; clear hC; go_simp
   simp only [Pu]
  refine f_val _ (by rfl) ?_ ?_
  ·intro w' hC; obtain ⟨x0, x1⟩ := HC.out w' hC; clear hC; go_simp
  simp only [Pu]
  iterate 2
   refine f_val _ (by rfl) ?_ ?_
   ·intro w' hC; obtain ⟨x0, x1, x2, x3⟩ := HW.out; clear hC; go_simp
   simp only [Pu]
  refine Jb 65 #[.int .i64 (L : Nat)] (.int .i64 z) (by rfl) (by intro w' hC; clear hC; go_simp) ?_ ?_
  ·intro w' hC hks; exact (HSN.out w').mono fun e w'' hh => ⟨hh.1, hh.2 ▸ Grows.refl _⟩
  simp only [Pu]
  refine f_val _ (by rfl) ?_ ?_
  ·intro w' hC; clear hC; go_simp
  simp only [Pu]
  refine Zv ?_
  intro w4 hC hks
  have HG4 := hid (Grows.trans HG3.out hC)
  have HZ4 := hid (hC.whole HZ3.out)
  clear hC hks HC HG3 HZ3 HSL3
  go_wp2_with (fail)
  refine (HN.out w4).mono ?_
  rintro e w5 ⟨rfl, hg5⟩
  have HG5 := hid (Grows.trans HG4.out hg5)
  have HZ5 := hid (hg5.whole HZ4.out)
  clear hg5 HG4 HZ4
  go_wp2_with (fail)
  refine (HQ.out w5 HG5.out).mono ?_
  rintro e w6 ⟨QA, qc, rfl, hsl6, hg6⟩
  have HSL6 := hid hsl6
  have HG6 := hid (Grows.trans HG5.out hg6)
  have HZ6 := hid (hg6.whole HZ5.out)
  clear hsl6 hg6 HG5 HZ5
  have zc0 := HZ6.out.cell 0
  have zf0 := HZ6.out.free 0
  have zc1 := HZ6.out.cell 1
  have zf1 := HZ6.out.free 1
  have zc2 := HZ6.out.cell 2
  have zf2 := HZ6.out.free 2
  have zc3 := HZ6.out.cell 3
  have zf3 := HZ6.out.free 3
  have zc4 := HZ6.out.cell 4
  have zf4 := HZ6.out.free 4
  have zc5 := HZ6.out.cell 5
  have zf5 := HZ6.out.free 5
  have zc6 := HZ6.out.cell 6
  have zf6 := HZ6.out.free 6
  simp only [Gt] at zc0 zc1 zc2 zc3 zc4 zc5 zc6
  go_wp2_with (fail)
  obtain ⟨W, hW, hwh, hwt⟩ := Ya HZ6.out (.int .i64 0) (.string ⟨#[]⟩) (.int .i64 0) (.int .i64 0) (.int .i64 0) (.slice none 0 0) (.slice none 0 0)
  rw [hW]
  have hbW : Below w.heap.size w W := Below.trans HG6.out (hwt.below (Nat.le_of_lt HZ6.out.lt))
  clear hW
  refine bodyPost_ret (Zk rfl _ _ w.heap.size _ _ _ _ _ _ _ _ (.int .i64 21) rfl rfl hwh) rfl ?_
  exact ⟨none, 0, 0, none, 0, 0, rfl, (RcOwn.nil W 0 0 [] 0 0 0).inn, hbW⟩
 by_cases hq0 : qe = 0
 rotate_left 1
 ·obtain rfl : res = (Rc.none, qe) := by rw [← HRES.out]; exact Zsa HRD.out HFE.out HQR.out hq1 hq0
  have hz1 : (qe == 1) = false := by rw [beq_eq_false_iff_ne]; exact hq1
  have hz0 : (qe != 0) = true := by rw [bne_iff_ne]; exact hq0
  clear hq1 hq0
  go_enter Tryz.func22, Tryz.ntmps22
  go_wp2_with (fail)
  refine (HN.out wz).mono ?_
  rintro e w1 ⟨rfl, hg1⟩
  have HG1 := hid (Grows.trans HGZ.out hg1)
  have HZ1 := hid (hg1.whole HZM.out)
  clear hg1
  go_wp2_with (fail)
  refine (HR1.out w1 HG1.out).mono ?_
  rintro e w2 ⟨HA, hc, rfl, hsl, hg⟩
  have HSL := hid hsl
  have HG2 := hid (Grows.trans HG1.out hg)
  have HZ2 := hid (hg.whole HZ1.out)
  clear hsl hg HG1 HZ1
  go_wp2_with (fail)
  refine (Yc HA 4 hc bs w2 HSL.out (by omega)).mono ?_
  rintro e w3 ⟨A3, n3, c3, rfl, hs3, hb3⟩
  have HG3 := hid (Grows.trans HG2.out hb3)
  have HZ3 := hid (Grows.whole hb3 HZ2.out)
  have HSL3 := hid (HSL.out.grow hb3)
  clear hs3 hb3 HG2 HZ2 HSL
  rw [HFE.out]
  go_wp2_with (fail)
  obtain ⟨ad, rfl, _, _⟩ := HSL3.out.bytes.spot (k := 0) (by omega)
  have HC := hid (show ∀ w', Grows w3 w' → w'.cell? ad = some (.int .u8 (b0.toNat : Nat)) ∧ w'.cell? { block := ad.block, off := ad.off + (0 + 1) } = some (.int .u8 (b1.toNat : Nat)) from fun w' hC => by
   have hh := HSL3.out.grow hC
   rw [HBS.out] at hh
   have := Zi hh
   exact ⟨this.2.1, this.2.2.1⟩)
  refine Zf (E := Grows) [Za (.slice (some ad) 4 hc), Za (.pointer (some ad)), Za (.int .u8 (b0.toNat : Nat)), Za (.int .i64 (b0.toNat : Nat)), Za (.int .i64 (256 * (b0.toNat : Nat))), Za (.slice (some ad) 4 hc), Za (.pointer (some (ad.add 1))), Za (.int .u8 (b1.toNat : Nat)), Za (.int .i64 (b1.toNat : Nat)), Za (.int .i64 (L : Nat)), Za (.int .i64 z), Za (.int .i64 z)] (by kernel_rfl) (by kernel_rfl) (fun _ _ _ => Grows.trans) (Ze _) ?_
  iterate 2
   refine f_val _ (by rfl) ?_ ?_
   ·intro w' hC; clear hC; go_simp
   simp only [Pu]
  refine f_val _ (by rfl) ?_ ?_
  ·intro w' hC; obtain ⟨x0, x1⟩ := HC.out w' hC; clear hC; go_simp
  simp only [Pu]
  iterate 2
   refine f_val _ (by rfl) ?_ ?_
   ·intro w' hC; obtain ⟨x0, x1, x2, x3⟩ := HW.out; clear hC; go_simp
   simp only [Pu]
  iterate 2
   refine f_val _ (by rfl) ?_ ?_
   ·intro w' hC; clear hC; go_simp
   simp only [Pu]
  refine f_val _ (by rfl) ?_ ?_
  ·intro w' hC; obtain ⟨x0, x1⟩ := HC.out w' hC; clear hC; go_simp
  simp only [Pu]
  iterate 2
   refine f_val _ (by rfl) ?_ ?_
   ·intro w' hC; obtain ⟨x0, x1, x2, x3⟩ := HW.out; clear hC; go_simp
   simp only [Pu]
  refine Jb 65 #[.int .i64 (L : Nat)] (.int .i64 z) (by rfl) (by intro w' hC; clear hC; go_simp) ?_ ?_
  ·intro w' hC hks; exact (HSN.out w').mono fun e w'' hh => ⟨hh.1, hh.2 ▸ Grows.refl _⟩
  simp only [Pu]
  refine f_val _ (by rfl) ?_ ?_
  ·intro w' hC; clear hC; go_simp
  simp only [Pu]
  refine Zv ?_
  intro w4 hC hks
  have HG4 := hid (Grows.trans HG3.out hC)
  have HZ4 := hid (hC.whole HZ3.out)
  clear hC hks HC HG3 HZ3 HSL3
  go_wp2_with (fail)
  refine (HN.out w4).mono ?_
  rintro e w5 ⟨rfl, hg5⟩
  have HG5 := hid (Grows.trans HG4.out hg5)
  have HZ5 := hid (hg5.whole HZ4.out)
  clear hg5 HG4 HZ4
  go_wp2_with (fail)
  refine (HQ.out w5 HG5.out).mono ?_
  rintro e w6 ⟨QA, qc, rfl, hsl6, hg6⟩
  have HSL6 := hid hsl6
  have HG6 := hid (Grows.trans HG5.out hg6)
  have HZ6 := hid (hg6.whole HZ5.out)
  clear hsl6 hg6 HG5 HZ5
  have zc0 := HZ6.out.cell 0
  have zf0 := HZ6.out.free 0
  have zc1 := HZ6.out.cell 1
  have zf1 := HZ6.out.free 1
  have zc2 := HZ6.out.cell 2
  have zf2 := HZ6.out.free 2
  have zc3 := HZ6.out.cell 3
  have zf3 := HZ6.out.free 3
  have zc4 := HZ6.out.cell 4
  have zf4 := HZ6.out.free 4
  have zc5 := HZ6.out.cell 5
  have zf5 := HZ6.out.free 5
  have zc6 := HZ6.out.cell 6
  have zf6 := HZ6.out.free 6
  simp only [Gt] at zc0 zc1 zc2 zc3 zc4 zc5 zc6
  go_wp2_with (fail)
  obtain ⟨W, hW, hwh, hwt⟩ := Ya HZ6.out (.int .i64 0) (.string ⟨#[]⟩) (.int .i64 0) (.int .i64 0) (.int .i64 0) (.slice none 0 0) (.slice none 0 0)
  rw [hW]
  have hbW : Below w.heap.size w W := Below.trans HG6.out (hwt.below (Nat.le_of_lt HZ6.out.lt))
  clear hW
  refine bodyPost_ret (Zk rfl _ _ w.heap.size _ _ _ _ _ _ _ _ (.int .i64 qe) rfl rfl hwh) rfl ?_
  exact ⟨none, 0, 0, none, 0, 0, rfl, (RcOwn.nil W 0 0 [] 0 0 0).inn, hbW⟩
 subst hq0
 clear hq1
 obtain ⟨qs, hqe, hql⟩ := HQL.out (by rw [HQE.out])
 rw [HQE.out] at hqe
 obtain rfl : qb = some qs := hqe
 have HRG := hid (show res = _ from HRES.out.symm.trans (Zsb HRD.out HFE.out HQR.out))
 simp only [Option.getD_some] at HQ
 obtain ⟨fq, hfq⟩ : ∃ q, (Zg qs).2.2 = q := ⟨_, rfl⟩
 rw [hfq] at HRG
 have HFQ := hid hfq
 have HQN := hid (show qs.length ≤ 8200 by
  have hz2 := HZZ.out
  omega)
 clear hfq hql
 by_cases hf0 : fq = 0
 rotate_left 1
 ·obtain rfl : res = (Rc.none, (fq : Int)) := by have := HRG.out; rw [if_neg hf0] at this; exact this
  have hz0 : ((fq : Int) != 0) = true := by rw [bne_iff_ne]; omega
  clear hf0
  go_enter Tryz.func22, Tryz.ntmps22
  go_wp2_with (fail)
  refine (HN.out wz).mono ?_
  rintro e w1 ⟨rfl, hg1⟩
  have HG1 := hid (Grows.trans HGZ.out hg1)
  have HZ1 := hid (hg1.whole HZM.out)
  clear hg1
  go_wp2_with (fail)
  refine (HR1.out w1 HG1.out).mono ?_
  rintro e w2 ⟨HA, hc, rfl, hsl, hg⟩
  have HSL := hid hsl
  have HG2 := hid (Grows.trans HG1.out hg)
  have HZ2 := hid (hg.whole HZ1.out)
  clear hsl hg HG1 HZ1
  go_wp2_with (fail)
  refine (Yc HA 4 hc bs w2 HSL.out (by omega)).mono ?_
  rintro e w3 ⟨A3, n3, c3, rfl, hs3, hb3⟩
  have HG3 := hid (Grows.trans HG2.out hb3)
  have HZ3 := hid (Grows.whole hb3 HZ2.out)
  have HSL3 := hid (HSL.out.grow hb3)
  clear hs3 hb3 HG2 HZ2 HSL
  rw [HFE.out]
  go_wp2_with (fail)
  obtain ⟨ad, rfl, _, _⟩ := HSL3.out.bytes.spot (k := 0) (by omega)
  have HC := hid (show ∀ w', Grows w3 w' → w'.cell? ad = some (.int .u8 (b0.toNat : Nat)) ∧ w'.cell? { block := ad.block, off := ad.off + (0 + 1) } = some (.int .u8 (b1.toNat : Nat)) from fun w' hC => by
   have hh := HSL3.out.grow hC
   rw [HBS.out] at hh
   have := Zi hh
   exact ⟨this.2.1, this.2.2.1⟩)
  refine Zf (E := Grows) [Za (.slice (some ad) 4 hc), Za (.pointer (some ad)), Za (.int .u8 (b0.toNat : Nat)), Za (.int .i64 (b0.toNat : Nat)), Za (.int .i64 (256 * (b0.toNat : Nat))), Za (.slice (some ad) 4 hc), Za (.pointer (some (ad.add 1))), Za (.int .u8 (b1.toNat : Nat)), Za (.int .i64 (b1.toNat : Nat)), Za (.int .i64 (L : Nat)), Za (.int .i64 z), Za (.int .i64 z)] (by kernel_rfl) (by kernel_rfl) (fun _ _ _ => Grows.trans) (Ze _) ?_
  iterate 2
   refine f_val _ (by rfl) ?_ ?_
   ·intro w' hC; clear hC; go_simp
   simp only [Pu]
  refine f_val _ (by rfl) ?_ ?_
  ·intro w' hC; obtain ⟨x0, x1⟩ := HC.out w' hC; clear hC; go_simp
  simp only [Pu]
  iterate 2
   refine f_val _ (by rfl) ?_ ?_
   ·intro w' hC; obtain ⟨x0, x1, x2, x3⟩ := HW.out; clear hC; go_simp
   simp only [Pu]
  iterate 2
   refine f_val _ (by rfl) ?_ ?_
   ·intro w' hC; clear hC; go_simp
   simp only [Pu]
  refine f_val _ (by rfl) ?_ ?_
  ·intro w' hC; obtain ⟨x0, x1⟩ := HC.out w' hC; clear hC; go_simp
  simp only [Pu]
  iterate 2
   refine f_val _ (by rfl) ?_ ?_
   ·intro w' hC; obtain ⟨x0, x1, x2, x3⟩ := HW.out; clear hC; go_simp
   simp only [Pu]
  refine Jb 65 #[.int .i64 (L : Nat)] (.int .i64 z) (by rfl) (by intro w' hC; clear hC; go_simp) ?_ ?_
  ·intro w' hC hks; exact (HSN.out w').mono fun e w'' hh => ⟨hh.1, hh.2 ▸ Grows.refl _⟩
  simp only [Pu]
  refine f_val _ (by rfl) ?_ ?_
  ·intro w' hC; clear hC; go_simp
  simp only [Pu]
  refine Zv ?_
  intro w4 hC hks
  have HG4 := hid (Grows.trans HG3.out hC)
  have HZ4 := hid (hC.whole HZ3.out)
  clear hC hks HC HG3 HZ3 HSL3
  go_wp2_with (fail)
  refine (HN.out w4).mono ?_
  rintro e w5 ⟨rfl, hg5⟩
  have HG5 := hid (Grows.trans HG4.out hg5)
  have HZ5 := hid (hg5.whole HZ4.out)
  clear hg5 HG4 HZ4
  go_wp2_with (fail)
  refine (HQ.out w5 HG5.out).mono ?_
  rintro e w6 ⟨QA, qc, rfl, hsl6, hg6⟩
  have HSL6 := hid hsl6
  have HG6 := hid (Grows.trans HG5.out hg6)
  have HZ6 := hid (hg6.whole HZ5.out)
  clear hsl6 hg6 HG5 HZ5
  skip
  go_wp2_with (fail)
  refine (Yc QA qs.length qc qs w6 HSL6.out (by have := HQN.out; omega)).mono ?_
  rintro e w7 ⟨A7, n7, c7, rfl, hs7, hb7⟩
  have HG7 := hid (Grows.trans HG6.out hb7)
  have HZ7 := hid (Grows.whole hb7 HZ6.out)
  have HS7 := hid hs7
  clear hs7 hb7 HG6 HZ6 HSL6
  rw [HFQ.out]
  have zc0 := HZ7.out.cell 0
  have zf0 := HZ7.out.free 0
  have zc1 := HZ7.out.cell 1
  have zf1 := HZ7.out.free 1
  have zc2 := HZ7.out.cell 2
  have zf2 := HZ7.out.free 2
  have zc3 := HZ7.out.cell 3
  have zf3 := HZ7.out.free 3
  have zc4 := HZ7.out.cell 4
  have zf4 := HZ7.out.free 4
  have zc5 := HZ7.out.cell 5
  have zf5 := HZ7.out.free 5
  have zc6 := HZ7.out.cell 6
  have zf6 := HZ7.out.free 6
  simp only [Gt] at zc0 zc1 zc2 zc3 zc4 zc5 zc6
  go_wp2_with (fail)
  obtain ⟨W, hW, hwh, hwt⟩ := Ya HZ7.out (.int .i64 0) (.string ⟨#[]⟩) (.int .i64 0) (.int .i64 0) (.int .i64 0) (.slice none 0 0) (.slice none 0 0)
  rw [hW]
  have hbW : Below w.heap.size w W := Below.trans HG7.out (hwt.below (Nat.le_of_lt HZ7.out.lt))
  clear hW
  refine bodyPost_ret (Zk rfl _ _ w.heap.size _ _ _ _ _ _ _ _ (.int .i64 (fq : Int)) rfl rfl hwh) rfl ?_
  exact ⟨none, 0, 0, none, 0, 0, rfl, (RcOwn.nil W 0 0 [] 0 0 0).inn, hbW⟩
 subst hf0
 rw [if_pos rfl] at HRG
 obtain ⟨ro, hro⟩ : ∃ q, (getR (Zg qs).1).getD Rc.none = q := ⟨_, rfl⟩
 obtain ⟨so, hso⟩ : ∃ q, (getR (Zg qs).1).isSome = q := ⟨_, rfl⟩
 rw [hro, hso] at HRG
 have HRO := hid hro
 have HSO := hid hso
 clear hro hso
 cases so with
 | false =>
   obtain rfl : res = (Rc.none, 22) := by have := HRG.out; rw [if_neg (by decide)] at this; exact this
   go_enter Tryz.func22, Tryz.ntmps22
   go_wp2_with (fail)
   refine (HN.out wz).mono ?_
   rintro e w1 ⟨rfl, hg1⟩
   have HG1 := hid (Grows.trans HGZ.out hg1)
   have HZ1 := hid (hg1.whole HZM.out)
   clear hg1
   go_wp2_with (fail)
   refine (HR1.out w1 HG1.out).mono ?_
   rintro e w2 ⟨HA, hc, rfl, hsl, hg⟩
   have HSL := hid hsl
   have HG2 := hid (Grows.trans HG1.out hg)
   have HZ2 := hid (hg.whole HZ1.out)
   clear hsl hg HG1 HZ1
   go_wp2_with (fail)
   refine (Yc HA 4 hc bs w2 HSL.out (by omega)).mono ?_
   rintro e w3 ⟨A3, n3, c3, rfl, hs3, hb3⟩
   have HG3 := hid (Grows.trans HG2.out hb3)
   have HZ3 := hid (Grows.whole hb3 HZ2.out)
   have HSL3 := hid (HSL.out.grow hb3)
   clear hs3 hb3 HG2 HZ2 HSL
   rw [HFE.out]
   go_wp2_with (fail)
   obtain ⟨ad, rfl, _, _⟩ := HSL3.out.bytes.spot (k := 0) (by omega)
   have HC := hid (show ∀ w', Grows w3 w' → w'.cell? ad = some (.int .u8 (b0.toNat : Nat)) ∧ w'.cell? { block := ad.block, off := ad.off + (0 + 1) } = some (.int .u8 (b1.toNat : Nat)) from fun w' hC => by
    have hh := HSL3.out.grow hC
    rw [HBS.out] at hh
    have := Zi hh
    exact ⟨this.2.1, this.2.2.1⟩)
   refine Zf (E := Grows) [Za (.slice (some ad) 4 hc), Za (.pointer (some ad)), Za (.int .u8 (b0.toNat : Nat)), Za (.int .i64 (b0.toNat : Nat)), Za (.int .i64 (256 * (b0.toNat : Nat))), Za (.slice (some ad) 4 hc), Za (.pointer (some (ad.add 1))), Za (.int .u8 (b1.toNat : Nat)), Za (.int .i64 (b1.toNat : Nat)), Za (.int .i64 (L : Nat)), Za (.int .i64 z), Za (.int .i64 z)] (by kernel_rfl) (by kernel_rfl) (fun _ _ _ => Grows.trans) (Ze _) ?_
   iterate 2
    refine f_val _ (by rfl) ?_ ?_
    ·intro w' hC; clear hC; go_simp
    simp only [Pu]
   refine f_val _ (by rfl) ?_ ?_
   ·intro w' hC; obtain ⟨x0, x1⟩ := HC.out w' hC; clear hC; go_simp
   simp only [Pu]
   iterate 2
    refine f_val _ (by rfl) ?_ ?_
    ·intro w' hC; obtain ⟨x0, x1, x2, x3⟩ := HW.out; clear hC; go_simp
    simp only [Pu]
   iterate 2
    refine f_val _ (by rfl) ?_ ?_
    ·intro w' hC; clear hC; go_simp
    simp only [Pu]
   refine f_val _ (by rfl) ?_ ?_
   ·intro w' hC; obtain ⟨x0, x1⟩ := HC.out w' hC; clear hC; go_simp
   simp only [Pu]
   iterate 2
    refine f_val _ (by rfl) ?_ ?_
    ·intro w' hC; obtain ⟨x0, x1, x2, x3⟩ := HW.out; clear hC; go_simp
    simp only [Pu]
   refine Jb 65 #[.int .i64 (L : Nat)] (.int .i64 z) (by rfl) (by intro w' hC; clear hC; go_simp) ?_ ?_
   ·intro w' hC hks; exact (HSN.out w').mono fun e w'' hh => ⟨hh.1, hh.2 ▸ Grows.refl _⟩
   simp only [Pu]
   refine f_val _ (by rfl) ?_ ?_
   ·intro w' hC; clear hC; go_simp
   simp only [Pu]
   refine Zv ?_
   intro w4 hC hks
   have HG4 := hid (Grows.trans HG3.out hC)
   have HZ4 := hid (hC.whole HZ3.out)
   clear hC hks HC HG3 HZ3 HSL3
   go_wp2_with (fail)
   refine (HN.out w4).mono ?_
   rintro e w5 ⟨rfl, hg5⟩
   have HG5 := hid (Grows.trans HG4.out hg5)
   have HZ5 := hid (hg5.whole HZ4.out)
   clear hg5 HG4 HZ4
   go_wp2_with (fail)
   refine (HQ.out w5 HG5.out).mono ?_
   rintro e w6 ⟨QA, qc, rfl, hsl6, hg6⟩
   have HSL6 := hid hsl6
   have HG6 := hid (Grows.trans HG5.out hg6)
   have HZ6 := hid (hg6.whole HZ5.out)
   clear hsl6 hg6 HG5 HZ5
   skip
   go_wp2_with (fail)
   refine (Yc QA qs.length qc qs w6 HSL6.out (by have := HQN.out; omega)).mono ?_
   rintro e w7 ⟨A7, n7, c7, rfl, hs7, hb7⟩
   have HG7 := hid (Grows.trans HG6.out hb7)
   have HZ7 := hid (Grows.whole hb7 HZ6.out)
   have HS7 := hid hs7
   clear hs7 hb7 HG6 HZ6 HSL6
   rw [HFQ.out]
   go_wp2_with (fail)
   refine (Zc1 _ _ _ _ w7 HS7.out).mono ?_
   rintro e w8 ⟨LA, ln, lc, BA, bn, bc, rfl, hr8, hb8⟩
   rw [HRO.out] at hr8
   have HR8 := hid hr8
   have HLT := hid (show w.heap.size < w7.heap.size from HZ7.out.lt)
   have HG8 := hid (Grows.trans HG7.out hb8)
   have HZ8 := hid (Grows.whole hb8 HZ7.out)
   clear hr8 hb8 HG7 HZ7 HS7
   rw [HSO.out, HRO.out]
   have ga9 := Zb w8 (.cells #[.int .i64 ro.kind, .string ⟨ro.key.toArray⟩, .int .i64 ro.id, .int .i64 ro.no, .int .i64 ro.size, .slice LA ln lc, .slice BA bn bc] 33)
   have hm9 := Whole.made w8 33 #[.int .i64 ro.kind, .string ⟨ro.key.toArray⟩, .int .i64 ro.id, .int .i64 ro.no, .int .i64 ro.size, .slice LA ln lc, .slice BA bn bc]
   obtain ⟨w9, hw9⟩ : ∃ u, w8.alloc (.cells #[.int .i64 ro.kind, .string ⟨ro.key.toArray⟩, .int .i64 ro.id, .int .i64 ro.no, .int .i64 ro.size, .slice LA ln lc, .slice BA bn bc] 33) = u := ⟨_, rfl⟩
   rw [hw9] at ga9 hm9
   have HG9 := hid (Grows.trans HG8.out ga9)
   have HZ9 := hid (ga9.whole HZ8.out)
   have HR9 := hid (HR8.out.grow ga9)
   have HM9 := hid hm9
   clear ga9 hm9 HG8 HZ8 HR8
   have yc0 := HM9.out.cell 0
   have yc1 := HM9.out.cell 1
   have yc2 := HM9.out.cell 2
   have yc3 := HM9.out.cell 3
   have yc4 := HM9.out.cell 4
   have yc5 := HM9.out.cell 5
   have yc6 := HM9.out.cell 6
   simp only [Gt] at yc0 yc1 yc2 yc3 yc4 yc5 yc6
   have zc0 := HZ9.out.cell 0
   have zf0 := HZ9.out.free 0
   have zc1 := HZ9.out.cell 1
   have zf1 := HZ9.out.free 1
   have zc2 := HZ9.out.cell 2
   have zf2 := HZ9.out.free 2
   have zc3 := HZ9.out.cell 3
   have zf3 := HZ9.out.free 3
   have zc4 := HZ9.out.cell 4
   have zf4 := HZ9.out.free 4
   have zc5 := HZ9.out.cell 5
   have zf5 := HZ9.out.free 5
   have zc6 := HZ9.out.cell 6
   have zf6 := HZ9.out.free 6
   simp only [Gt] at zc0 zc1 zc2 zc3 zc4 zc5 zc6
   go_wp2_with (fail)
   obtain ⟨W, hW, hwh, hwt⟩ := Ya HZ9.out (.int .i64 0) (.string ⟨#[]⟩) (.int .i64 0) (.int .i64 0) (.int .i64 0) (.slice none 0 0) (.slice none 0 0)
   rw [hW]
   have hbW : Below w.heap.size w W := Below.trans HG9.out (hwt.below (Nat.le_of_lt HZ9.out.lt))
   clear hW
   refine bodyPost_ret (Zk rfl _ _ w.heap.size _ _ _ _ _ _ _ _ (.int .i64 22) rfl rfl hwh) rfl ?_
   exact ⟨none, 0, 0, none, 0, 0, rfl, (RcOwn.nil W 0 0 [] 0 0 0).inn, hbW⟩
 | true =>
   obtain rfl : res = (ro, 0) := by have := HRG.out; rw [if_pos rfl] at this; exact this
   go_enter Tryz.func22, Tryz.ntmps22
   go_wp2_with (fail)
   refine (HN.out wz).mono ?_
   rintro e w1 ⟨rfl, hg1⟩
   have HG1 := hid (Grows.trans HGZ.out hg1)
   have HZ1 := hid (hg1.whole HZM.out)
   clear hg1
   go_wp2_with (fail)
   refine (HR1.out w1 HG1.out).mono ?_
   rintro e w2 ⟨HA, hc, rfl, hsl, hg⟩
   have HSL := hid hsl
   have HG2 := hid (Grows.trans HG1.out hg)
   have HZ2 := hid (hg.whole HZ1.out)
   clear hsl hg HG1 HZ1
   go_wp2_with (fail)
   refine (Yc HA 4 hc bs w2 HSL.out (by omega)).mono ?_
   rintro e w3 ⟨A3, n3, c3, rfl, hs3, hb3⟩
   have HG3 := hid (Grows.trans HG2.out hb3)
   have HZ3 := hid (Grows.whole hb3 HZ2.out)
   have HSL3 := hid (HSL.out.grow hb3)
   clear hs3 hb3 HG2 HZ2 HSL
   rw [HFE.out]
   go_wp2_with (fail)
   obtain ⟨ad, rfl, _, _⟩ := HSL3.out.bytes.spot (k := 0) (by omega)
   have HC := hid (show ∀ w', Grows w3 w' → w'.cell? ad = some (.int .u8 (b0.toNat : Nat)) ∧ w'.cell? { block := ad.block, off := ad.off + (0 + 1) } = some (.int .u8 (b1.toNat : Nat)) from fun w' hC => by
    have hh := HSL3.out.grow hC
    rw [HBS.out] at hh
    have := Zi hh
    exact ⟨this.2.1, this.2.2.1⟩)
   refine Zf (E := Grows) [Za (.slice (some ad) 4 hc), Za (.pointer (some ad)), Za (.int .u8 (b0.toNat : Nat)), Za (.int .i64 (b0.toNat : Nat)), Za (.int .i64 (256 * (b0.toNat : Nat))), Za (.slice (some ad) 4 hc), Za (.pointer (some (ad.add 1))), Za (.int .u8 (b1.toNat : Nat)), Za (.int .i64 (b1.toNat : Nat)), Za (.int .i64 (L : Nat)), Za (.int .i64 z), Za (.int .i64 z)] (by kernel_rfl) (by kernel_rfl) (fun _ _ _ => Grows.trans) (Ze _) ?_
   iterate 2
    refine f_val _ (by rfl) ?_ ?_
    ·intro w' hC; clear hC; go_simp
    simp only [Pu]
   refine f_val _ (by rfl) ?_ ?_
   ·intro w' hC; obtain ⟨x0, x1⟩ := HC.out w' hC; clear hC; go_simp
   simp only [Pu]
   iterate 2
    refine f_val _ (by rfl) ?_ ?_
    ·intro w' hC; obtain ⟨x0, x1, x2, x3⟩ := HW.out; clear hC; go_simp
    simp only [Pu]
   iterate 2
    refine f_val _ (by rfl) ?_ ?_
    ·intro w' hC; clear hC; go_simp
    simp only [Pu]
   refine f_val _ (by rfl) ?_ ?_
   ·intro w' hC; obtain ⟨x0, x1⟩ := HC.out w' hC; clear hC; go_simp
   simp only [Pu]
   iterate 2
    refine f_val _ (by rfl) ?_ ?_
    ·intro w' hC; obtain ⟨x0, x1, x2, x3⟩ := HW.out; clear hC; go_simp
    simp only [Pu]
   refine Jb 65 #[.int .i64 (L : Nat)] (.int .i64 z) (by rfl) (by intro w' hC; clear hC; go_simp) ?_ ?_
   ·intro w' hC hks; exact (HSN.out w').mono fun e w'' hh => ⟨hh.1, hh.2 ▸ Grows.refl _⟩
   simp only [Pu]
   refine f_val _ (by rfl) ?_ ?_
   ·intro w' hC; clear hC; go_simp
   simp only [Pu]
   refine Zv ?_
   intro w4 hC hks
   have HG4 := hid (Grows.trans HG3.out hC)
   have HZ4 := hid (hC.whole HZ3.out)
   clear hC hks HC HG3 HZ3 HSL3
   go_wp2_with (fail)
   refine (HN.out w4).mono ?_
   rintro e w5 ⟨rfl, hg5⟩
   have HG5 := hid (Grows.trans HG4.out hg5)
   have HZ5 := hid (hg5.whole HZ4.out)
   clear hg5 HG4 HZ4
   go_wp2_with (fail)
   refine (HQ.out w5 HG5.out).mono ?_
   rintro e w6 ⟨QA, qc, rfl, hsl6, hg6⟩
   have HSL6 := hid hsl6
   have HG6 := hid (Grows.trans HG5.out hg6)
   have HZ6 := hid (hg6.whole HZ5.out)
   clear hsl6 hg6 HG5 HZ5
   skip
   go_wp2_with (fail)
   refine (Yc QA qs.length qc qs w6 HSL6.out (by have := HQN.out; omega)).mono ?_
   rintro e w7 ⟨A7, n7, c7, rfl, hs7, hb7⟩
   have HG7 := hid (Grows.trans HG6.out hb7)
   have HZ7 := hid (Grows.whole hb7 HZ6.out)
   have HS7 := hid hs7
   clear hs7 hb7 HG6 HZ6 HSL6
   rw [HFQ.out]
   go_wp2_with (fail)
   refine (Zc1 _ _ _ _ w7 HS7.out).mono ?_
   rintro e w8 ⟨LA, ln, lc, BA, bn, bc, rfl, hr8, hb8⟩
   rw [HRO.out] at hr8
   have HR8 := hid hr8
   have HLT := hid (show w.heap.size < w7.heap.size from HZ7.out.lt)
   have HG8 := hid (Grows.trans HG7.out hb8)
   have HZ8 := hid (Grows.whole hb8 HZ7.out)
   clear hr8 hb8 HG7 HZ7 HS7
   rw [HSO.out, HRO.out]
   have ga9 := Zb w8 (.cells #[.int .i64 ro.kind, .string ⟨ro.key.toArray⟩, .int .i64 ro.id, .int .i64 ro.no, .int .i64 ro.size, .slice LA ln lc, .slice BA bn bc] 33)
   have hm9 := Whole.made w8 33 #[.int .i64 ro.kind, .string ⟨ro.key.toArray⟩, .int .i64 ro.id, .int .i64 ro.no, .int .i64 ro.size, .slice LA ln lc, .slice BA bn bc]
   obtain ⟨w9, hw9⟩ : ∃ u, w8.alloc (.cells #[.int .i64 ro.kind, .string ⟨ro.key.toArray⟩, .int .i64 ro.id, .int .i64 ro.no, .int .i64 ro.size, .slice LA ln lc, .slice BA bn bc] 33) = u := ⟨_, rfl⟩
   rw [hw9] at ga9 hm9
   have HG9 := hid (Grows.trans HG8.out ga9)
   have HZ9 := hid (ga9.whole HZ8.out)
   have HR9 := hid (HR8.out.grow ga9)
   have HM9 := hid hm9
   clear ga9 hm9 HG8 HZ8 HR8
   have yc0 := HM9.out.cell 0
   have yc1 := HM9.out.cell 1
   have yc2 := HM9.out.cell 2
   have yc3 := HM9.out.cell 3
   have yc4 := HM9.out.cell 4
   have yc5 := HM9.out.cell 5
   have yc6 := HM9.out.cell 6
   simp only [Gt] at yc0 yc1 yc2 yc3 yc4 yc5 yc6
   have zc0 := HZ9.out.cell 0
   have zf0 := HZ9.out.free 0
   have zc1 := HZ9.out.cell 1
   have zf1 := HZ9.out.free 1
   have zc2 := HZ9.out.cell 2
   have zf2 := HZ9.out.free 2
   have zc3 := HZ9.out.cell 3
   have zf3 := HZ9.out.free 3
   have zc4 := HZ9.out.cell 4
   have zf4 := HZ9.out.free 4
   have zc5 := HZ9.out.cell 5
   have zf5 := HZ9.out.free 5
   have zc6 := HZ9.out.cell 6
   have zf6 := HZ9.out.free 6
   simp only [Gt] at zc0 zc1 zc2 zc3 zc4 zc5 zc6
   go_wp2_with (fail)
   obtain ⟨W, hW, hwh, hwt⟩ := Ya HZ9.out (.int .i64 ro.kind) (.string ⟨ro.key.toArray⟩) (.int .i64 ro.id) (.int .i64 ro.no) (.int .i64 ro.size) (.slice LA ln lc) (.slice BA bn bc)
   rw [hW]
   have hbW : Below w.heap.size w W := Below.trans HG9.out (hwt.below (Nat.le_of_lt HZ9.out.lt))
   clear hW
   refine bodyPost_ret (Zk rfl _ _ w.heap.size _ _ _ _ _ _ _ _ (.int .i64 0) rfl rfl hwh) rfl ?_
   exact ⟨LA, ln, lc, BA, bn, bc, rfl, (HR9.out.turn hwt HLT.out).inn, hbW⟩
end
end Go.Proofs.YtlldcogkcjnejaaGreat
