import Derived.Test.YtlldcogkcjnejaaGreatMG28
import Derived.Test.YtlldcogkcjnejaaGreatRcSame
import Derived.Test.YtlldcogkcjnejaaGreatMG15
import Derived.Test.YtlldcogkcjnejaaGreatMG16
import Derived.Test.YtlldcogkcjnejaaGreatMG17
import Derived.Test.YtlldcogkcjnejaaGreatMG18
set_option linter.unusedVariables false
namespace Go.Proofs.YtlldcogkcjnejaaGreat
open Go.Lib (hid)
open Go.RowKit Go.Maps Go.WideMaps
open Hs
theorem nmS_neg : nmS (-1) = [] := by kernel_rfl
set_option maxRecDepth 100000 in
theorem Ziu (w : World) (d : Nat) : Calls Tryz.prog 15 #[.pointer (some ⟨d, 0, none⟩), .int .i64 (-1)] w fun e w' => e = .returned (.int .i64 1) ∧ Grows w w' := by
 have HO := hid (Zab w d (-1))
 unfold segV at HO
 rw [nmS_neg] at HO
 go_enter Tryz.func15, Tryz.ntmps15
 go_wp2_with (fail)
 refine HO.out.mono ?_
 rintro e w1 ⟨rfl, hg1⟩
 have hwm := Whole.made w1 77 #[.pointer (some ⟨d, 0, none⟩), .int .i64 (-1), .string ⟨#[]⟩]
 have HG := hid (Grows.trans hg1 (Zb w1 (.cells #[.pointer (some ⟨d, 0, none⟩), .int .i64 (-1), .string ⟨#[]⟩] 77)))
 have c0 := hwm.cell 0
 have c2 := hwm.cell 2
 simp only [Gt] at c0 c2
 clear hwm hg1
 go_wp2_with (fail)
 go_ret
 exact ⟨rfl, HG.out⟩
theorem Zpt {w : World} {LA : Option Addr} {ln lc : Nat} {BA : Option Addr} {bn bc : Nat} {r : Rc} (h : RcIn w LA ln lc BA bn bc r) (w' : World) (h1 : r.locs = []) (h2 : r.b = []) : RcIn w' LA ln lc BA bn bc r := by
 obtain ⟨hl, hs⟩ := h
 rw [h1] at hl
 rw [h2] at hs
 refine ⟨?_, ?_⟩
 ·rw [h1]
  exact ⟨hl.len, hl.cap, hl.bare, ⟨hl.row.len, fun k v hk => by cases k <;> cases hk⟩⟩
 ·rw [h2]
  exact ⟨⟨hs.bytes.len, fun k v hk => by cases k <;> cases hk⟩, hs.cap, hs.bare⟩
def rcVal (x : Rc) (LA : Option Addr) (ln lc : Nat) (BA : Option Addr) (bn bc : Nat) : Array Value := #[.int .i64 x.kind, .string ⟨x.key.toArray⟩, .int .i64 x.id, .int .i64 x.no, .int .i64 x.size, .slice LA ln lc, .slice BA bn bc]
set_option maxHeartbeats 16000000 in
set_option maxRecDepth 100000 in
theorem Znk (w : World) : Calls Tryz.prog 4 #[] w fun e w' => e = .returned (.bool true) ∧ Below w.heap.size w w' := by
 go_enter Tryz.func4, Tryz.ntmps4
 go_wp2_with (fail)
 refine (Zmg w 1000).mono ?_
 rintro e w1 ⟨d, rfl, hn⟩
 have HD := hid (show DkIn w.heap.size w w1 d (fun _ => False) M0 from DkIn.new hn (Nat.le_refl _) (Below.refl _ _) (fun k h => h.elim))
 clear hn
 go_wp2_with (fail)
 have h1 := Zb5 w1 7 (by omega) HD.out M0ok (by omega)
 rw [made0] at h1
 refine h1.mono ?_
 clear h1
 rintro e w2 ⟨rfl, hd, hs⟩
 have HD2 := hid (show DkIn w.heap.size w w2 d (fun _ => False) M1 from hd)
 clear hd hs HD
 go_wp2_with (fail)
 have h1 := Zb5 w2 7 (by omega) HD2.out M1ok (by omega)
 rw [made1] at h1
 refine h1.mono ?_
 clear h1
 rintro e w3 ⟨rfl, hd, hs⟩
 have HD3 := hid (show DkIn w.heap.size w w3 d (fun _ => False) M2 from hd)
 clear hd hs HD2
 go_wp2_with (fail)
 have h1 := Zax w3 7 recT (LA := none) (ln := 0) (lc := 0) (BA := none) (bn := 0) (bc := 0) ⟨Locs.nil _, Sl.nil _⟩ HD3.out M2ok (by omega)
 rw [added2] at h1
 refine h1.mono ?_
 clear h1
 rintro e w4 ⟨rfl, hd, hs⟩
 have HD4 := hid (show DkIn w.heap.size w w4 d (fun _ => False) M3 from hd)
 clear hd hs HD3
 go_wp2_with (fail)
 have h1 := Zb0 w4 7 13 HD4.out M3ok (by omega) (by omega)
 rw [got3] at h1
 refine h1.mono ?_
 clear h1
 rintro e w5 ⟨LA, ln, lc, BA, bn, bc, rfl, hin, hg⟩
 have hx5 := Whole.made w5 33 (rcVal recT LA ln lc BA bn bc)
 have hu := Zb w5 (.cells (rcVal recT LA ln lc BA bn bc) 33)
 have HX5 := hid hx5
 have HL5 := hid hin.locs.len
 have HI5 := hid (hin.grow hu)
 have HD5 := hid (And.intro (HD4.out.more (Grows.trans hg hu)) (show (fun k => False ∨ (w4.heap.size ≤ k ∧ k < (w5.alloc (.cells (rcVal recT LA ln lc BA bn bc) 33)).heap.size)) w5.heap.size from .inr ⟨hg.size, HX5.out.lt⟩))
 clear hx5 hin hg hu HD4
 unfold rcVal at HX5 HI5 HD5
 unfold rcV
 go_wp2_with (fail)
 obtain ⟨w6, hw6⟩ : ∃ w6, w5.alloc (.cells #[.int .i64 recT.kind, .string ⟨recT.key.toArray⟩, .int .i64 recT.id, .int .i64 recT.no, .int .i64 recT.size, .slice LA ln lc, .slice BA bn bc] 33) = w6 := ⟨_, rfl⟩
 rw [hw6] at HX5 HI5 HD5
 rw [hw6]
 clear hw6
 have h1 := Zb0 w6 7 24 HD5.out.1 M3ok (by omega) (by omega)
 obtain ⟨⟨y6, v6⟩, hy⟩ : ∃ q, getP M3 7 24 = q := ⟨_, rfl⟩
 have hv := got3b
 rw [hy] at h1 hv
 dsimp only at h1 hv
 subst hv
 clear hy
 refine h1.mono ?_
 clear h1
 rintro e w7 ⟨LA6, ln6, lc6, BA6, bn6, bc6, rfl, _, hg⟩
 have hu := Grows.trans hg (Zb w7 (.cells #[.int .i64 y6.kind, .string ⟨y6.key.toArray⟩, .int .i64 y6.id, .int .i64 y6.no, .int .i64 y6.size, .slice LA6 ln6 lc6, .slice BA6 bn6 bc6] 33))
 have HX6 := hid (hu.whole HX5.out)
 have HI6 := hid (HI5.out.grow hu)
 have HO5 := hid HD5.out.2
 have HD6 := hid (HD5.out.1.grow hu)
 clear hg hu HX5 HI5 HD5
 unfold rcV
 go_wp2_with (fail)
 obtain ⟨w8, hw8⟩ : ∃ w8, w7.alloc (.cells #[.int .i64 y6.kind, .string ⟨y6.key.toArray⟩, .int .i64 y6.id, .int .i64 y6.no, .int .i64 y6.size, .slice LA6 ln6 lc6, .slice BA6 bn6 bc6] 33) = w8 := ⟨_, rfl⟩
 rw [hw8] at HX6 HI6 HD6
 rw [hw8]
 clear hw8
 have h1 := Zb0 w8 8 0 HD6.out M3ok (by omega) (by omega)
 obtain ⟨⟨y8, v8⟩, hy⟩ : ∃ q, getP M3 8 0 = q := ⟨_, rfl⟩
 have hv := got3c
 rw [hy] at h1 hv
 dsimp only at h1 hv
 subst hv
 clear hy
 refine h1.mono ?_
 clear h1
 rintro e w9 ⟨LA8, ln8, lc8, BA8, bn8, bc8, rfl, _, hg⟩
 have hu := Grows.trans hg (Zb w9 (.cells #[.int .i64 y8.kind, .string ⟨y8.key.toArray⟩, .int .i64 y8.id, .int .i64 y8.no, .int .i64 y8.size, .slice LA8 ln8 lc8, .slice BA8 bn8 bc8] 33))
 have HX8 := hid (hu.whole HX6.out)
 have HI8 := hid (HI6.out.grow hu)
 have HD8 := hid (HD6.out.grow hu)
 clear hg hu HX6 HI6 HD6
 unfold rcV
 go_wp2_with (fail)
 obtain ⟨w10, hw10⟩ : ∃ w10, w9.alloc (.cells #[.int .i64 y8.kind, .string ⟨y8.key.toArray⟩, .int .i64 y8.id, .int .i64 y8.no, .int .i64 y8.size, .slice LA8 ln8 lc8, .slice BA8 bn8 bc8] 33) = w10 := ⟨_, rfl⟩
 rw [hw10] at HX8 HI8 HD8
 rw [hw10]
 clear hw10
 have h1 := Zax w10 7 Rc.none (LA := none) (ln := 0) (lc := 0) (BA := none) (bn := 0) (bc := 0) ⟨Locs.nil _, Sl.nil _⟩ HD8.out M3ok (by omega)
 rw [added3] at h1
 refine h1.mono ?_
 clear h1
 rintro e w11 ⟨rfl, hd, hs⟩
 have HX11 := hid (hs.whole HX8.out HO5.out)
 have HD11 := hid (show DkIn w.heap.size w w11 d _ M4 from hd)
 have HI11 := hid (Zpt HI8.out w11 rfl rfl)
 clear hd hs HX8 HD8 HI8
 go_wp2_with (fail)
 have h1 := Zfe w11 7 (by omega) HD11.out M4ok (by omega)
 rw [all4] at h1
 refine h1.mono ?_
 clear h1
 rintro e w12 ⟨A, c, l, rfl, hf, hl, hg⟩
 have hl1 : l.length = 1 := by have := congrArg List.length hl; simpa using this
 match l, hl1 with
 | [p], _ =>
   have hp : p.1.1 = 13 := by
    simp only [List.map_cons, List.map_nil, List.cons.injEq, and_true] at hl
    rw [hl]
   obtain ⟨g, rfl, hlt, hc⟩ := hf.fnds.row.spot 0 p rfl
   have hc0 := hc 0 (by omega)
   rw [show (fnE p)[0]? = some (.int .i64 (p.1.1 : Nat)) from rfl, hp, Nat.zero_mul, Nat.zero_add] at hc0
   have HC0 := hid (And.intro hlt hc0)
   have HD12 := hid (HD11.out.grow hg)
   have HX12 := hid (hg.whole HX11.out)
   have HI12 := hid (HI11.out.grow hg)
   clear hf hl hl1 hp hlt hc hc0 hg HX11 HI11 HD11
   have hx := HX12.out
   have x0 := hx.cell 0
   have x1 := hx.cell 1
   have x2 := hx.cell 2
   have x3 := hx.cell 3
   have x4 := hx.cell 4
   have x5 := hx.cell 5
   have x6 := hx.cell 6
   simp only [Gt] at x0 x1 x2 x3 x4 x5 x6
   clear hx
   have hsame := Zgl recT recT LA ln lc BA bn bc none 0 0 none 0 0 w12 HI12.out ⟨Locs.nil _, Sl.nil _⟩ (by have := HL5.out; simp [recT] at this; omega)
   rw [decide_eq_true rfl] at hsame
   have HSAME := hid hsame
   clear hsame
   go_wp2_with (fail)
   refine HSAME.out.mono ?_
   rintro e w13 ⟨rfl, hg⟩
   have hg13 : Grows w12 w13 := hg
   have c0 := (hg13.cell HC0.out.1).trans HC0.out.2
   have HD13 := hid (HD12.out.grow hg13)
   clear hg hg13 HSAME x0 x1 x2 x3 x4 x5 x6
   go_wp2_with (fail)
   refine (Zcj w13 7 HD13.out (show M4.size (nmS 7) = (24, true) by kernel_rfl)).mono ?_
   rintro e w14 ⟨rfl, hg⟩
   have HD14 := hid (HD13.out.grow hg)
   clear hg
   go_wp2_with (fail)
   refine (Ziu w14 d).mono ?_
   rintro e w15 ⟨rfl, hg⟩
   have HD15 := hid (HD14.out.grow hg)
   clear hg
   go_wp2_with (fail)
   go_ret
   exact ⟨rfl, HD15.out.low⟩
end Go.Proofs.YtlldcogkcjnejaaGreat
namespace Go.Proofs.YtlldcogkcjnejaaGreat
open Go.RowKit
def makeQ (m : Dk) (n : Int) : Dk × Int := if 0 ≤ n ∧ n ≤ 99999999 then makeP m n else (m, 1)
theorem Zlm {n : Int} (hn : ¬ (0 ≤ n ∧ n ≤ 99999999)) : nmS n = [] := by
 unfold nmS ofP
 rw [if_pos (by omega)]
theorem Zbg (w : World) (n : Int) : Calls Tryz.prog 41 #[.int .i64 n] w fun e w' => e = .returned (.string ⟨(nmS n).toArray⟩) ∧ Grows w w' := by
 have HO := Lib.hid (Zku 1 n w)
 have e : ofP 1 n = nmS n := rfl
 rw [e] at HO
 clear e
 go_enter Tryz.func41, Tryz.ntmps41
 go_wp2_with (fail)
 refine HO.out.mono ?_
 rintro e w1 ⟨rfl, hg⟩
 go_wp2_with (fail)
 go_ret
 exact ⟨rfl, hg⟩
set_option maxRecDepth 100000 in
theorem Zeu (w : World) (n : Int) (hn : -9223372036854775808 ≤ n ∧ n ≤ 9223372036854775807) : Calls Tryz.prog 59 #[.int .i64 n] w fun e w' => e = .returned (.slice (some ⟨w.heap.size, 0, none⟩) 5 5) ∧ Sl w' (some ⟨w.heap.size, 0, none⟩) 5 5 (Zw n) ∧ Grows w w' := by
 go_enter Tryz.func59, Tryz.ntmps59
 go_wp2_with (fail)
 go_ret
 have hw := Whole.made w 5 #[.int .u8 9, .int .u8 (n / 16777216 % 256), .int .u8 (n / 65536 % 256), .int .u8 (n / 256 % 256), .int .u8 (n % 256)]
 exact ⟨rfl, hw.sl (Zw n) (Zb2 n) (Yo n), Zb _ _⟩
set_option maxRecDepth 100000 in
theorem Zh9 (w : World) (d : Nat) {n : Int} (hn : ¬ (0 ≤ n ∧ n ≤ 99999999)) : Calls Tryz.prog 15 #[.pointer (some ⟨d, 0, none⟩), .int .i64 n] w fun e w' => e = .returned (.int .i64 1) ∧ Grows w w' := by
 have HO := Lib.hid (Zab w d n)
 unfold segV at HO
 rw [Zlm hn] at HO
 clear hn
 go_enter Tryz.func15, Tryz.ntmps15
 go_wp2_with (fail)
 refine HO.out.mono ?_
 rintro e w1 ⟨rfl, hg1⟩
 have hwm := Whole.made w1 77 #[.pointer (some ⟨d, 0, none⟩), .int .i64 n, .string ⟨#[]⟩]
 have HG := Lib.hid (Grows.trans hg1 (Zb w1 (.cells #[.pointer (some ⟨d, 0, none⟩), .int .i64 n, .string ⟨#[]⟩] 77)))
 have c0 := hwm.cell 0
 have c2 := hwm.cell 2
 simp only [Gt] at c0 c2
 clear hwm hg1
 go_wp2_with (fail)
 go_ret
 exact ⟨rfl, HG.out⟩
section
variable {B d r K : Nat} {w0 w w' : World} {out : Nat → Prop} {m mm : Dk} {x : Rf}
theorem Zgr (w : World) (n : Int) (h : DkIn B w0 w d out m) (ok : DkOk K m) (hK : K ≤ 100000000) :
 Calls Tryz.prog 15 #[.pointer (some ⟨d, 0, none⟩), .int .i64 n] w fun e w' => e = .returned (.int .i64 (makeQ m n).2) ∧ DkIn B w0 w' d out (makeQ m n).1 ∧ Stays B out w w' := by
 unfold makeQ
 by_cases hn : 0 ≤ n ∧ n ≤ 99999999
 ·rw [if_pos hn]
  exact Zb5 w n hn h ok hK
 ·rw [if_neg hn]
  exact (Zh9 w d hn).mono fun e w' hh => ⟨hh.1, h.grow hh.2, Stays.grows hh.2⟩
theorem Zco (h : Two w0.heap.size w0 w d r out mm x) (hG : G2 K m x) (hK : K ≤ 100000) (n : Int) : Calls Tryz.prog 10 #[.pointer (some ⟨r, 0, none⟩), .int .i64 n] w fun e w' => e = .returned (.int .i64 (m.size (nmS n)).1) ∧ Grows w w' := by
 obtain ⟨⟨sv, sb⟩, hsz⟩ : ∃ q, m.size (nmS n) = q := ⟨_, rfl⟩
 have HS := Lib.hid (fun w' (hg : Grows w w') => Zqx (h.grow hg) hG hK hsz)
 have HN := Lib.hid (fun w' => Zbg w' n)
 rw [hsz]
 clear h hG hK hsz
 go_enter Tryz.func10, Tryz.ntmps10
 go_wp2_with (fail)
 refine (HN.out _).mono ?_
 rintro e w1 ⟨rfl, hg1⟩
 go_wp2_with (fail)
 refine (HS.out w1 hg1).mono ?_
 rintro e w2 ⟨rfl, hg2⟩
 go_wp2_with (fail)
 go_ret
 exact ⟨rfl, Grows.trans hg1 hg2⟩
end
end Go.Proofs.YtlldcogkcjnejaaGreat
namespace Go.Proofs.YtlldcogkcjnejaaGreat
open Go.Lib (hid)
open Go.RowKit
section
variable {d r K : Nat} {w0 w w' : World} {out : Nat → Prop} {m mm : Dk} {x : Rf}
set_option maxRecDepth 100000 in
set_option maxHeartbeats 8000000 in
theorem Zj6 (h : Two w0.heap.size w0 w d r out mm x) (hG : G2 K m x) (hK : K + 20 ≤ 100000) (n : Int) (hn : -9223372036854775808 ≤ n ∧ n ≤ 9223372036854775807) :
 Calls Tryz.prog 20 #[.pointer (some ⟨r, 0, none⟩), .int .i64 n] w (RTo w0 w d r out mm (K + 15) (makeQ m n)) := by
 have HN := hid (fun w' => Zbg w' n)
 have HF := hid (fun w' => Zeu w' n hn)
 unfold makeQ
 by_cases hill : 0 ≤ n ∧ n ≤ 99999999
 rotate_left 1
 ·rw [if_neg hill]
  rw [Zlm hill] at HN
  have H := hid h
  have HGG := hid hG
  clear hill h hG hn
  go_enter Tryz.func20, Tryz.ntmps20
  go_wp2_with (fail)
  refine (HN.out _).mono ?_
  rintro e w1 ⟨rfl, hg1⟩
  go_wp2_with (fail)
  go_ret
  exact ⟨rfl, ⟨_, H.out.grow hg1, HGG.out.mono (by omega)⟩, Stays.grows hg1⟩
 rw [if_pos hill]
 have hsm := Zjs hill
 have HPB := hid (show (putB (Zw n)).length = 13 by unfold putB; rw [if_pos (by rw [Yo]; omega), Za5, Yo])
 obtain ⟨nm, hnm⟩ : ∃ s, nmS n = s := ⟨_, rfl⟩
 rw [hnm] at HN hsm
 unfold makeP
 rw [hnm]
 obtain ⟨⟨m1, v1⟩, hm1⟩ : ∃ q, m.create nm = q := ⟨_, rfl⟩
 have hc := Zgt h hG (by omega) nm
 rw [hm1] at hc ⊢
 have HC := hid (fun w' (hg : Grows w w') => by
  have hc := Zgt (h.grow hg) hG (by omega) nm
  rw [hm1] at hc
  exact hc)
 obtain ⟨s, hs⟩ : ∃ s : ByteArray, (⟨nm.toArray⟩ : ByteArray) = s := ⟨_, rfl⟩
 rw [hs] at HN hsm HC
 have HSN := hid hs
 clear hc hm1 h hG hill hn hnm hs
 dsimp only
 by_cases hz : v1 = 0
 rotate_left 1
 ·rw [if_neg hz]
  have hzb : (v1 != 0) = true := by rw [bne_iff_ne]; exact hz
  clear hz
  go_enter Tryz.func20, Tryz.ntmps20
  go_wp2_with (fail)
  refine (HN.out _).mono ?_
  rintro e w1 ⟨rfl, hg1⟩
  have HG1 := hid hg1
  clear hg1
  go_wp2_with (fail)
  refine (HN.out _).mono ?_
  rintro e w2 ⟨rfl, hg2⟩
  have HG2 := hid (Grows.trans HG1.out hg2)
  clear hg2
  go_wp2_with (fail)
  refine (HC.out w2 HG2.out).mono ?_
  rintro e w3 ⟨rfl, ⟨x3, ht3, hgg3⟩, hs3⟩
  have HT3 := hid (And.intro ht3 (And.intro (hgg3.mono (show K + 1 ≤ K + 15 by omega)) ((Stays.grows HG2.out).trans hs3)))
  clear ht3 hgg3 hs3
  go_wp2_with (fail)
  go_ret
  exact ⟨rfl, ⟨_, HT3.out.1, HT3.out.2.1⟩, HT3.out.2.2⟩
 subst hz
 rw [if_pos rfl]
 obtain ⟨⟨m2, v2⟩, hm2⟩ : ∃ q, m1.append nm (putB (Zw n)) = q := ⟨_, rfl⟩
 rw [hm2]
 have HM2 := hid hm2
 clear hm2
 dsimp only
 obtain ⟨res, hres⟩ : ∃ q, (if v2 = 0 then (m2, (0 : Int)) else ((m2.remove nm).1, v2)) = q := ⟨_, rfl⟩
 rw [hres]
 have HRES := hid hres
 clear hres
 go_enter Tryz.func20, Tryz.ntmps20
 go_wp2_with (fail)
 refine (HN.out _).mono ?_
 rintro e w1 ⟨rfl, hg1⟩
 have HG1 := hid hg1
 clear hg1
 go_wp2_with (fail)
 refine (HN.out _).mono ?_
 rintro e w2 ⟨rfl, hg2⟩
 have HG2 := hid (Grows.trans HG1.out hg2)
 clear hg2
 go_wp2_with (fail)
 refine (HC.out w2 HG2.out).mono ?_
 rintro e w3 ⟨rfl, ⟨x3, ht3, hgg3⟩, hs3⟩
 have HT3 := hid ht3
 have HGG3 := hid hgg3
 have HS3 := hid ((Stays.grows HG2.out).trans hs3)
 clear ht3 hgg3 hs3 HG2 HG1
 go_wp2_with (fail)
 refine (HN.out _).mono ?_
 rintro e w4 ⟨rfl, hg4⟩
 have HG4 := hid hg4
 clear hg4
 go_wp2_with (fail)
 refine (HF.out w4).mono ?_
 rintro e w5 ⟨rfl, hsl5, hg5⟩
 have HP := hid (Zcw _ 5 5 (Zw n) w5 hsl5 (by unfold maxLen; omega))
 have HG5 := hid (Grows.trans HG4.out hg5)
 clear hsl5 hg5 HG4
 go_wp2_with (fail)
 refine HP.out.mono ?_
 rintro e w6 ⟨A6, k6, c6, rfl, ho6, hb6⟩
 have HT6 := hid (HT3.out.grow (Grows.trans HG5.out hb6))
 have HS6 := hid (HS3.out.trans (Stays.grows (Grows.trans HG5.out hb6)))
 have hrlt : r < w5.heap.size := by obtain ⟨ro, fv, nv, kv, pv, k1⟩ := (HT3.out.grow HG5.out).rf; exact k1.top.lt
 have hap := Zgu HT6.out HGG3.out (by omega) nm (Sl.owned ho6) (Zgs ho6 hrlt) (by have := (Sl.owned ho6).len; have := HPB.out; omega)
 rw [HM2.out, HSN.out, HPB.out] at hap
 have HAP := hid hap
 clear ho6 hb6 hrlt hap HP HT3 HS3 HG5
 go_wp2_with (fail)
 refine HAP.out.mono ?_
 rintro e w7 ⟨rfl, ⟨x7, ht7, hgg7⟩, hs7⟩
 have HT7 := hid ht7
 have HGG7 := hid hgg7
 have HS7 := hid (HS6.out.trans hs7)
 clear ht7 hgg7 hs7 HAP HT6 HS6
 by_cases hz2 : v2 = 0
 ·subst hz2
  obtain rfl : res = (m2, 0) := by have := HRES.out; rw [if_pos rfl] at this; exact this.symm
  go_wp2_with (fail)
  go_ret
  exact ⟨rfl, ⟨_, HT7.out, HGG7.out.mono (by omega)⟩, HS7.out⟩
 ·obtain rfl : res = ((m2.remove nm).1, v2) := by have := HRES.out; rw [if_neg hz2] at this; exact this.symm
  have hzb : (v2 != 0) = true := by rw [bne_iff_ne]; exact hz2
  clear hz2
  go_wp2_with (fail)
  refine (HN.out _).mono ?_
  rintro e w8 ⟨rfl, hg8⟩
  have hrm := Zln (HT7.out.grow hg8) HGG7.out (by omega) nm
  rw [HSN.out] at hrm
  have HRM := hid hrm
  have HS8 := hid (HS7.out.trans (Stays.grows hg8))
  clear hrm hg8
  go_wp2_with (fail)
  refine HRM.out.mono ?_
  rintro e w9 ⟨rfl, ⟨x9, ht9, hgg9⟩, hs9⟩
  have HT9 := hid (And.intro ht9 (And.intro (hgg9.mono (show K + 1 + 13 + 1 ≤ K + 15 by omega)) (HS8.out.trans hs9)))
  clear ht9 hgg9 hs9
  go_wp2_with (fail)
  go_ret
  exact ⟨rfl, ⟨_, HT9.out.1, HT9.out.2.1⟩, HT9.out.2.2⟩
end
end Go.Proofs.YtlldcogkcjnejaaGreat
