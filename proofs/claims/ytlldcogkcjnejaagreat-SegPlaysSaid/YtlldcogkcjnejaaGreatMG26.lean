import Derived.Test.YtlldcogkcjnejaaGreatMG23
import Derived.Test.YtlldcogkcjnejaaGreatMG24
import Derived.Test.YtlldcogkcjnejaaGreatMG25
import Derived.Test.YtlldcogkcjnejaaGreatMG00
import Derived.Test.YtlldcogkcjnejaaGreatMG20
import Derived.Test.YtlldcogkcjnejaaGreatMG18
namespace Go.Proofs.YtlldcogkcjnejaaGreat
open Go.Lib (hid)
open Go.RowKit Go.Shelf
attribute [local go_sem] Oper.semAt_some
theorem Items.lowly {A w : World} {X : Option Addr} {n c : Nat} {ts : List It} (h : Items A X n c ts) (hl : Lowly A w) : Items w X n c ts := by
 obtain ⟨h1, h2, h3, hs, h4, h5, h6⟩ := h
 exact ⟨h1, h2, h3, hs, h4, h5.lowly hl, fun i x t hx ht => (h6 i x t hx ht).lowly hl⟩
theorem Zk2 {w : World} {b g n c : Nat} {ts : List It} {hs : List Hd} (hown : w.ownsRow b 109 3 (.slice (some ⟨g, 0, none⟩) n c) n (itCells ts hs)) (hbod : Y9 w b hs ts) (hl : ts.length = n) (h1 : 1 ≤ n) : Items w (some ⟨g, 3, none⟩) (n - 1) (c - 1) (ts.drop 1) := by
 obtain ⟨hh, hb⟩ := hbod
 have hit := Items.owned hh.symm hl hown fun i x t hx ht => Sl.owned' (hb i x t hx ht)
 have hcap := hit.cap
 match ts, hs, hl, hh, hown, hb with
 | t :: ts, h :: hs, hl, hh, hown, hb =>
   simp only [List.length_cons, List.drop_succ_cons, List.drop_zero] at *
   have hlt : g < w.heap.size := (hown.lt g rfl).2
   have hll : ts.length = hs.length := by omega
   refine ⟨by omega, by omega, fun e => (by cases e), hs, by omega, ⟨by rw [itCells_length _ _ hll]; omega, fun k v hv => ⟨_, rfl, hlt, ?_⟩⟩, fun i x y hx hy => Sl.owned' (hb (i + 1) x y hx hy)⟩
   have hk : k < 3 * ts.length := by
    have := (List.getElem?_eq_some_iff.1 hv).1
    rw [itCells_length _ _ hll] at this
    exact this
   rw [show (⟨g, 3, none⟩ : Addr).add k = ⟨g, 3 + k, none⟩ by unfold Addr.add; split <;> simp_all, hown.cellAt (3 + k) (by omega)]
   show (itV t h ++ itCells ts hs)[3 + k]? = _
   rw [List.getElem?_append_right (by simp [itV]), show 3 + k - (itV t h).length = k by simp [itV]]
   exact hv
 | [], _, hl, _, _, _ => simp only [List.length_nil] at hl; omega
 | _ :: _, [], _, hh, _, _ => simp at hh
theorem Zfh (A : Option Addr) (n c : Nat) (w : World) : Calls Tryz.prog 55 #[.slice A n c] w fun e w' => e = .returned (.func (.func 100) #[] #[.pointer (some ⟨w.heap.size, 0, none⟩)]) ∧ w.alloc (.cells #[.slice A n c] 97) = w' := by
 go_enter Tryz.func55, Tryz.ntmps55
 go_wp2
 go_ret
 exact ⟨rfl, rfl⟩
abbrev Rx := It × (Option Addr × Nat × Nat) × (Option Addr × Nat × Nat)
def rcOf (bs : List UInt8) : Rc := (getR bs).getD Rc.none
def Zjx (x : Rx) : Array Value := #[.agg #[.int .i64 (x.1.1 : Nat), .int .i64 (x.1.2.1 : Nat), .int .i64 (rcOf x.1.2.2).kind, .string ⟨(rcOf x.1.2.2).key.toArray⟩, .int .i64 (rcOf x.1.2.2).id, .int .i64 (rcOf x.1.2.2).no, .int .i64 (rcOf x.1.2.2).size, .slice x.2.1.1 x.2.1.2.1 x.2.1.2.2, .slice x.2.2.1 x.2.2.2.1 x.2.2.2.2], .bool (getR x.1.2.2).isSome]
def ToldR (ts : List It) (pre : List Rx) (x : Rx) (W0 W1 : World) : Prop := ts[pre.length]? = some x.1 ∧ RcOwn W1 W0.heap.size x.2.1.1 x.2.1.2.1 x.2.1.2.2 x.2.2.1 x.2.2.2.1 x.2.2.2.2 (rcOf x.1.2.2)
set_option maxRecDepth 100000 in
set_option maxHeartbeats 4000000 in
theorem Zcl (n : Nat) (Bl : Nat) (A : Option Addr) (N c : Nat) (ts : List It) (wA w : World) (hI : Items wA A N c ts) (hl : Lowly wA w) (hb : Boxed w Bl 97 (.slice A N c)) (hN : N ≤ 1000000) (hsm : ∀ t ∈ ts, t.2.2.length ≤ 1000000) :
 Gives Tryz.prog n 100 #[.pointer (some ⟨Bl, 0, none⟩)] Zjx (ToldR ts) (fun k => k < wA.heap.size ∨ k = Bl) (fun xs => xs.map (·.1) = ts) (fun _ => True) w := by
 intro l J Jx W hW hJ hJx hY h0
 have hlen := hI.len
 have HI := hid (And.intro hI (And.intro hlen hsm))
 have hbW : Boxed W Bl 97 (.slice A N c) := (hW.block _ hb.lt).trans hb
 have HLW := hid (show Lowly wA W from hl.trans hW.size fun k hk => hW.block k (Nat.lt_of_lt_of_le hk hl.1))
 have hbc := hbW.cell
 clear hI hl hb hsm hlen hW hbW
 show CallsIn _ _ _ _ #[.func (.yield l) #[] #[], .pointer (some ⟨Bl, 0, none⟩)] _ _
 refine callsIn_of_wp Tryz.func100 rfl trivial ?_ rfl
 simp only [Tryz.ntmps100, List.size_toArray, List.length_cons, List.length_nil, Nat.reduceAdd, Nat.reduceSub, Array.replicate_succ, Array.replicate_zero, List.push_toArray, List.append_toArray, List.nil_append, List.cons_append]
 gi_wp2_with (fail)
 gi_loopw [9] (fun i wr => ∃ (pre : List Rx) (j : Nat), j ≤ N ∧ i = .int .i64 (j : Nat) ∧ Hid (pre.length = j ∧ pre.map (·.1) = ts.take j) ∧ J pre wr ∧ Hid (Lowly wA wr)) (fun i _ => N - (intOf i).toNat)
 case atStart => exact ⟨[], 0, Nat.zero_le _, rfl, hid ⟨rfl, by simp⟩, h0, HLW⟩
 case round =>
  obtain ⟨pre, j, hj, rfl, HP, hJp, HL⟩ := hrel
  by_cases hlt : j < N
  ·have hltI : (j : Int) < (N : Int) := by omega
   have hj0 : (0 : Int) ≤ (j : Int) := by omega
   have hwj : IntKind.i64.wrap ((j : Int) + 1) = (j : Int) + 1 := IntWalk.i64_in _ (by omega)
   obtain ⟨ad, B, m, dd, hA, c1, c2, c3, hsl⟩ := (HI.out.1.lowly HL.out).spot hlt
   subst hA
   obtain ⟨⟨t1, t2, tb⟩, ht⟩ : ∃ t, ts.getD j (0, 0, []) = t := ⟨_, rfl⟩
   rw [ht] at c1 c2 hsl
   dsimp only at c1 c2 hsl
   have htj : ts[j]? = some (t1, t2, tb) := by
    have h1 : j < ts.length := by rw [HI.out.2.1]; exact hlt
    rw [List.getElem?_eq_getElem h1, ← ht, List.getD_eq_getElem?_getD, List.getElem?_eq_getElem h1]
    rfl
   have htl : tb.length ≤ 1000000 := HI.out.2.2 _ (List.mem_of_getElem? htj)
   have k1 := c1 wr (Grows.refl _)
   have k2 := c2 wr (Grows.refl _)
   have k3 := c3 wr (Grows.refl _)
   have hm := hsl.len
   have HC := hid (Ziw B m dd tb (wr.alloc (.cells #[.int .i64 (t1 : Nat), .int .i64 (t2 : Nat), .slice B m dd] 109)) (hsl.grow (Zb _ _)) (by omega))
   have HT := hid htj
   have HG1 := hid (Zb wr (.cells #[.int .i64 (t1 : Nat), .int .i64 (t2 : Nat), .slice B m dd] 109))
   have HM1 := hid (Whole.made wr 109 #[.int .i64 (t1 : Nat), .int .i64 (t2 : Nat), .slice B m dd])
   have HLT := hid hlt
   clear c1 c2 c3 hsl ht htj htl hm
   gi_wp2_with (fail)
   refine ⟨trivial, (fun h => by cases h), (callsIn_wide.2 HC.out).mono ?_⟩
   rintro e w2 ⟨LA, ln, lc, BA, bn, bc, rfl, hr, hb⟩
   have hg2 := Grows.trans HG1.out hb
   have hM2 := Grows.whole hb HM1.out
   have hr0 := hr.from (show wr.heap.size ≤ (wr.alloc (.cells #[.int .i64 (t1 : Nat), .int .i64 (t2 : Nat), .slice B m dd] 109)).heap.size from HG1.out.size)
   obtain ⟨ro, hro⟩ : ∃ q, rcOf tb = q := ⟨_, rfl⟩
   obtain ⟨so, hso⟩ : ∃ q, (getR tb).isSome = q := ⟨_, rfl⟩
   have hro' : (getR tb).getD Rc.none = ro := hro
   rw [hro'] at hr0
   have HRV := hid (And.intro hro hso)
   have hga := Zb w2 (.cells #[.int .i64 ro.kind, .string ⟨ro.key.toArray⟩, .int .i64 ro.id, .int .i64 ro.no, .int .i64 ro.size, .slice LA ln lc, .slice BA bn bc] 33)
   have hM3 := Whole.made w2 33 #[.int .i64 ro.kind, .string ⟨ro.key.toArray⟩, .int .i64 ro.id, .int .i64 ro.no, .int .i64 ro.size, .slice LA ln lc, .slice BA bn bc]
   have hM2' := hga.whole hM2
   have y0 := hM2'.cell 0
   have y1 := hM2'.cell 1
   have z0 := hM3.cell 0
   have z1 := hM3.cell 1
   have z2 := hM3.cell 2
   have z3 := hM3.cell 3
   have z4 := hM3.cell 4
   have z5 := hM3.cell 5
   have z6 := hM3.cell 6
   simp only [Gt] at y0 y1 z0 z1 z2 z3 z4 z5 z6
   have htold : ToldR ts pre ((t1, t2, tb), (LA, ln, lc), (BA, bn, bc)) wr (w2.alloc (.cells #[.int .i64 ro.kind, .string ⟨ro.key.toArray⟩, .int .i64 ro.id, .int .i64 ro.no, .int .i64 ro.size, .slice LA ln lc, .slice BA bn bc] 33)) :=
    ⟨by rw [HP.out.1]; exact HT.out, by dsimp only; rw [hro]; exact hr0.grow hga⟩
   obtain ⟨fn, tmps, assign, body, hy, hR⟩ := hY pre ((t1, t2, tb), (LA, ln, lc), (BA, bn, bc)) wr _ hJp (Grows.trans hg2 hga) htold
   dsimp only [Zjx] at hy
   rw [hro, hso] at hy
   have HGW := hid (Grows.trans hg2 hga)
   have HR := hid hR
   rw [hro', hso]
   clear hr hb hg2 hM2 hr0 hro hso hro' hga hM3 hM2' htold hR
   gi_wp2_with (fail)
   refine ⟨(fun h => by cases h), RoundIn.mono (Zfk HR.out) ?_⟩
   rintro e W3 (⟨rfl, hJ3, hsz3, hk3⟩ | ⟨rfl, hJx3⟩)
   ·have hL1 := HL.out.trans HGW.out.size fun k hk => HGW.out.block k (Nat.lt_of_lt_of_le hk HL.out.1)
    have HL3 := hid (hL1.trans hsz3 fun k hk => hk3 k (Nat.lt_of_lt_of_le hk hL1.1) (.inl (.inl hk)))
    have HJ3 := hid hJ3
    have HPS := hid (show (pre ++ [(((t1, t2, tb), (LA, ln, lc), (BA, bn, bc)) : Rx)]).length = j + 1 ∧ (pre ++ [(((t1, t2, tb), (LA, ln, lc), (BA, bn, bc)) : Rx)]).map (·.1) = ts.take (j + 1) from ⟨by rw [List.length_append, HP.out.1]; rfl, by rw [List.map_append, HP.out.2, List.take_add_one, HT.out]; rfl⟩)
    clear hL1 hsz3 hk3 hJ3 y0 y1 z0 z1 z2 z3 z4 z5 z6 hy k1 k2 k3
    gi_wp2_with (fail)
    go_roundw
    case rel => exact ⟨_, j + 1, HLT.out, by go_num, HPS, HJ3.out, HL3⟩
    case measure => simp only [intOf]; have := HLT.out; omega
   ·have HX := hid hJx3
    clear hJx3 y0 y1 z0 z1 z2 z3 z4 z5 z6 hy k1 k2 k3
    gi_wp2_with (fail)
    refine bodyPost_ret (results_none rfl _ _ _) rfl ?_
    exact ⟨⟨_, rfl⟩, .inr ⟨_, trivial, HX.out⟩⟩
  ·obtain rfl : j = N := by omega
   gi_wp2_with (fail)
   go_end0
   refine ⟨⟨_, rfl⟩, .inl ⟨pre, ?_, hJp⟩⟩
   rw [HP.out.2, List.take_of_length_le (by rw [HI.out.2.1]; exact Nat.le_refl _)]
end Go.Proofs.YtlldcogkcjnejaaGreat
namespace Go.Proofs.YtlldcogkcjnejaaGreat
open Go.RowKit
theorem infoFnd : (Tryz.prog.info? 53).map (fun i => (i.zero, i.size, i.bytes)) = some (some (.agg #[.int .i64 0, .int .i64 0, .int .i64 0, .string ⟨#[]⟩, .int .i64 0, .int .i64 0, .int .i64 0, .slice none 0 0, .slice none 0 0]), 9, 112) := by kernel_rfl
abbrev Fn := Nat × Nat × Rc
abbrev Fh := (Option Addr × Nat × Nat) × (Option Addr × Nat × Nat)
def fnE (p : Fn × Fh) : List Value := [.int .i64 (p.1.1 : Nat), .int .i64 (p.1.2.1 : Nat), .int .i64 p.1.2.2.kind, .string ⟨p.1.2.2.key.toArray⟩, .int .i64 p.1.2.2.id, .int .i64 p.1.2.2.no, .int .i64 p.1.2.2.size, .slice p.2.1.1 p.2.1.2.1 p.2.1.2.2, .slice p.2.2.1 p.2.2.2.1 p.2.2.2.2]
theorem fnL (p : Fn × Fh) : (fnE p).length = 9 := rfl
theorem Ziv (p : Fn × Fh) : ∀ u ∈ fnE p, u.oneCell' = true := by
 intro u hu
 simp only [fnE, List.mem_cons, List.not_mem_nil, or_false] at hu
 rcases hu with rfl | rfl | rfl | rfl | rfl | rfl | rfl | rfl | rfl <;> first | rfl | simp [Value.oneCell']
theorem Znn {w : World} {g ty : Nat} {p : Fn × Fh} (hw : Whole w g ty (fnE p).toArray) : ∀ j u, (fnE p)[j]? = some u → w.cell? ((⟨g, 0, none⟩ : Addr).add j) = some u := by
 intro j u hj
 rw [show (⟨g, 0, none⟩ : Addr).add j = ⟨g, j, none⟩ by unfold Addr.add; split <;> simp_all, hw.cell j]
 simpa using hj
structure Fnds (w : World) (A : Option Addr) (n : Nat) (l : List (Fn × Fh)) : Prop where
 row : Rw w A n fnE 9 l
 recs : ∀ p ∈ l, RcIn w p.2.1.1 p.2.1.2.1 p.2.1.2.2 p.2.2.1 p.2.2.2.1 p.2.2.2.2 p.1.2.2
structure FnOwn (b : Nat) (w : World) (A : Option Addr) (n c : Nat) (l : List (Fn × Fh)) : Prop where
 len : l.length = n
 own : w.ownsRow b 53 9 (.slice A n c) n (l.flatMap fnE)
 recs : ∀ p ∈ l, RcOwn w b p.2.1.1 p.2.1.2.1 p.2.1.2.2 p.2.2.1 p.2.2.2.1 p.2.2.2.2 p.1.2.2
theorem FnOwn.fnds {b : Nat} {w : World} {A : Option Addr} {n c : Nat} {l : List (Fn × Fh)} (h : FnOwn b w A n c l) : Fnds w A n l := ⟨Rw.owned fnL h.len (Zj h.own (Nat.zero_le _)), fun p hp => (h.recs p hp).inn⟩
theorem FnOwn.nil (b : Nat) (w : World) : FnOwn b w none 0 0 [] := ⟨rfl, World.ownsRow_nil _ _ _ _, fun p hp => by cases hp⟩
theorem FnOwn.low {b b' : Nat} {w : World} {A : Option Addr} {n c : Nat} {l : List (Fn × Fh)} (h : FnOwn b w A n c l) (hb : b' ≤ b) : FnOwn b' w A n c l := ⟨h.len, Zj h.own hb, fun p hp => ⟨Zj (h.recs p hp).locs hb, (h.recs p hp).len, Zj (h.recs p hp).b hb⟩⟩
theorem FnOwn.grow {b : Nat} {w w' : World} {A : Option Addr} {n c : Nat} {l : List (Fn × Fh)} (h : FnOwn b w A n c l) (hg : Grows w w') : FnOwn b w' A n c l := ⟨h.len, Zd h.own hg, fun p hp => (h.recs p hp).grow hg⟩
def fnsR (l : List Rx) : List (Fn × Fh) := (l.filter fun x => (getR x.1.2.2).isSome).map fun x => ((x.1.1, x.1.2.1, rcOf x.1.2.2), x.2)
def badR (l : List Rx) : Nat := (l.filter fun x => !(getR x.1.2.2).isSome).length
theorem Zhm (l : List Rx) (x : Rx) : fnsR (l ++ [x]) = fnsR l ++ if (getR x.1.2.2).isSome = true then [((x.1.1, x.1.2.1, rcOf x.1.2.2), x.2)] else [] := by
 unfold fnsR
 rw [List.filter_append, List.map_append]
 by_cases h : (getR x.1.2.2).isSome = true <;> simp [h]
theorem Zhn (l : List Rx) (x : Rx) : badR (l ++ [x]) = badR l + if (getR x.1.2.2).isSome = true then 0 else 1 := by
 unfold badR
 rw [List.filter_append, List.length_append]
 by_cases h : (getR x.1.2.2).isSome = true
 ·rw [if_pos h, List.filter_cons, if_neg (by rw [h]; decide)]
  rfl
 ·rw [if_neg h, List.filter_cons, if_pos (by rw [Bool.not_eq_true] at h; rw [h]; decide)]
  rfl
def fnsP (ts : List It) : List Fn := (ts.filter fun t => (getR t.2.2).isSome).map fun t => (t.1, t.2.1, rcOf t.2.2)
def badP (ts : List It) : Nat := (ts.filter fun t => !(getR t.2.2).isSome).length
theorem Zqr (l : List Rx) : (fnsR l).map (·.1) = fnsP (l.map (·.1)) := by
 unfold fnsR fnsP
 rw [List.map_map, List.filter_map, List.map_map]
 rfl
theorem Zqs (l : List Rx) : badR l = badP (l.map (·.1)) := by
 unfold badR badP
 rw [List.filter_map, List.length_map]
 rfl
end Go.Proofs.YtlldcogkcjnejaaGreat
namespace Go.Proofs.YtlldcogkcjnejaaGreat
open Go.Lib (hid)
open Go.RowKit
attribute [local irreducible] wpF
def Zef (ts : List It) (n : Int) : Bool := match ts with
 | [] => false
 | t :: _ => decide (t.1 = 0) && decide (t.2.2 = Zw n)
set_option maxRecDepth 100000 in
set_option maxHeartbeats 4000000 in
theorem Zk8 (w : World) (d : Nat) (n : Int) (hn : -9223372036854775808 ≤ n ∧ n ≤ 9223372036854775807) {A : Option Addr} {k c : Nat} {ts : List It} (hI : Items w A k c ts) :
 Calls Tryz.prog 54 #[.agg (segV d n), .slice A k c] w fun e w' => e = .returned (.bool (Zef ts n)) ∧ Grows w w' := by
 have HFB := hid (fun w' => Zc3 w' d n hn)
 have HFL := hid (Yo n)
 have hwm := Whole.made w 77 (segV d n)
 unfold segV at HFB hwm ⊢
 obtain ⟨s, hs⟩ : ∃ s : ByteArray, (⟨(nmS n).toArray⟩ : ByteArray) = s := ⟨_, rfl⟩
 rw [hs] at HFB hwm ⊢
 have HG := hid (Zb w (.cells #[.pointer (some ⟨d, 0, none⟩), .int .i64 n, .string s] 77))
 have HC := hid (show ∀ w', Grows (w.alloc (.cells #[.pointer (some ⟨d, 0, none⟩), .int .i64 n, .string s] 77)) w' → w'.cell? { block := w.heap.size, off := 0 } = some (.pointer (some ⟨d, 0, none⟩)) ∧ w'.cell? { block := w.heap.size, off := 1 } = some (.int .i64 n) ∧ w'.cell? { block := w.heap.size, off := 2 } = some (.string s) from fun w' hC => by
  have hx := hC.whole hwm
  exact ⟨hx.cell 0, hx.cell 1, hx.cell 2⟩)
 clear hs hwm
 have hkl := hI.len
 match ts, hI, hkl with
 | [], hI, hkl =>
   obtain rfl : k = 0 := by simpa using hkl.symm
   show Calls _ _ _ _ fun e w' => e = .returned (.bool false) ∧ Grows w w'
   clear hI hkl
   go_enter Tryz.func54, Tryz.ntmps54
   go_wp2_with (fail)
   refine Zf (E := Grows) [Za (.slice A 0 c), Za (.int .i64 0), Za (.bool false), Za (.bool false), Za undef, Za undef, Za undef, Za undef, Za undef, Za (.bool false), Za (.bool false), Za undef, Za undef, Za undef, Za undef, Za undef, Za undef, Za undef, Za (.bool false), Za (.bool false)] (by kernel_rfl) (by kernel_rfl) (fun _ _ _ => Grows.trans) (Ze _) ?_
   iterate 4
    refine f_val _ (by rfl) ?_ ?_
    ·intro w' hC; clear hC; go_simp
    simp only [Pu]
   iterate 5
    refine Zch (by rfl) ?_
    simp only [Pu]
   iterate 2
    refine f_val _ (by rfl) ?_ ?_
    ·intro w' hC; clear hC; go_simp
    simp only [Pu]
   iterate 7
    refine Zch (by rfl) ?_
    simp only [Pu]
   iterate 2
    refine f_val _ (by rfl) ?_ ?_
    ·intro w' hC; clear hC; go_simp
    simp only [Pu]
   refine Zv ?_
   intro w5 hC hks
   have HCw5 := hid hC
   clear hC hks
   go_wp2_with (fail)
   go_ret
   exact ⟨rfl, Grows.trans HG.out HCw5.out⟩
 | t :: ts, hI, hkl =>
   obtain ⟨ad, B, m, dd, hA, c1, c2, c3, hsl⟩ := hI.spot (i := 0) (by rw [List.length_cons] at hkl; omega)
   subst hA
   simp only [Nat.zero_mul, Addr.add_zero', List.getD_cons_zero] at c1 c2 c3 hsl
   have hkn : 0 < k := by rw [List.length_cons] at hkl; omega
   have hk0 : (0 : Int) < (k : Int) := by omega
   have HI := hid (show ∀ w', Grows (w.alloc (.cells #[.pointer (some ⟨d, 0, none⟩), .int .i64 n, .string s] 77)) w' → w'.cell? ad = some (.int .i64 (t.1 : Nat)) ∧ w'.cell? { block := ad.block, off := ad.off + 2 } = some (.slice B m dd) from fun w' hg => ⟨c1 w' (Grows.trans HG.out hg), c3 w' (Grows.trans HG.out hg)⟩)
   have HSL := hid hsl
   clear c1 c2 c3 hsl hI hkl
   show Calls _ _ _ _ fun e w' => e = .returned (.bool (decide (t.1 = 0) && decide (t.2.2 = Zw n))) ∧ Grows w w'
   obtain ⟨⟨t1, t2, tb⟩, ht⟩ : ∃ q, t = q := ⟨_, rfl⟩
   subst ht
   dsimp only at HI HSL ⊢
   by_cases ht1 : t1 = 0
   rotate_left 1
   ·have hz : ((t1 : Int) == 0) = false := by rw [beq_eq_false_iff_ne]; omega
    have hz' : ¬ ((t1 : Int) = 0) := by omega
    rw [decide_eq_false ht1, Bool.false_and]
    clear ht1
    go_enter Tryz.func54, Tryz.ntmps54
    go_wp2_with (fail)
    refine Zf (E := Grows) [Za (.slice (some ad) k c), Za (.int .i64 (k : Nat)), Za (.bool true), Za (.bool true), Za (.slice (some ad) k c), Za (.pointer (some ad)), Za (.pointer (some ad)), Za (.int .i64 (t1 : Nat)), Za (.bool false), Za (.bool false), Za (.bool false), Za undef, Za undef, Za undef, Za undef, Za undef, Za undef, Za undef, Za (.bool false), Za (.bool false)] (by kernel_rfl) (by kernel_rfl) (fun _ _ _ => Grows.trans) (Ze _) ?_
    iterate 7
     refine f_val _ (by rfl) ?_ ?_
     ·intro w' hC; clear hC; go_simp
     simp only [Pu]
    refine f_val _ (by rfl) ?_ ?_
    ·intro w' hC; obtain ⟨z1, z2⟩ := HI.out w' hC; clear hC; go_simp
    simp only [Pu]
    iterate 3
     refine f_val _ (by rfl) ?_ ?_
     ·intro w' hC; clear hC; go_simp
     simp only [Pu]
    iterate 7
     refine Zch (by rfl) ?_
     simp only [Pu]
    iterate 2
     refine f_val _ (by rfl) ?_ ?_
     ·intro w' hC; clear hC; go_simp
     simp only [Pu]
    refine Zv ?_
    intro w5 hC hks
    have HCw5 := hid hC
    clear hC hks
    go_wp2_with (fail)
    go_ret
    exact ⟨rfl, Grows.trans HG.out HCw5.out⟩
   ·subst ht1
    rw [decide_eq_true (Eq.refl 0), Bool.true_and]
    have HEQ := hid (fun w' (hg : Grows (w.alloc (.cells #[.pointer (some ⟨d, 0, none⟩), .int .i64 n, .string s] 77)) w') => (HSL.out.grow (Grows.trans HG.out hg)))
    obtain ⟨q, hq⟩ : ∃ q, decide (tb = Zw n) = q := ⟨_, rfl⟩
    rw [hq]
    have HQ := hid hq
    clear hq
    go_enter Tryz.func54, Tryz.ntmps54
    go_wp2_with (fail)
    refine Zf (E := Grows) [Za (.slice (some ad) k c), Za (.int .i64 (k : Nat)), Za (.bool true), Za (.bool true), Za (.slice (some ad) k c), Za (.pointer (some ad)), Za (.pointer (some ad)), Za (.int .i64 0), Za (.bool true), Za (.bool true), Za (.bool true), Za (.slice (some ad) k c), Za (.pointer (some ad)), Za (.pointer (some ⟨ad.block, ad.off + 2, none⟩)), Za (.slice B m dd), Za (.agg #[.pointer (some ⟨d, 0, none⟩), .int .i64 n, .string s]), Yv (Zw n), Za (.bool q), Za (.bool q), Za (.bool q)] (by kernel_rfl) (by kernel_rfl) (fun _ _ _ => Grows.trans) (Ze _) ?_
    iterate 7
     refine f_val _ (by rfl) ?_ ?_
     ·intro w' hC; clear hC; go_simp
     simp only [Pu]
    refine f_val _ (by rfl) ?_ ?_
    ·intro w' hC; obtain ⟨z1, z2⟩ := HI.out w' hC; clear hC; go_simp
    simp only [Pu]
    iterate 6
     refine f_val _ (by rfl) ?_ ?_
     ·intro w' hC; clear hC; go_simp
     simp only [Pu]
    refine f_val _ (by rfl) ?_ ?_
    ·intro w' hC; obtain ⟨z1, z2⟩ := HI.out w' hC; clear hC; go_simp
    simp only [Pu]
    refine f_val _ (by rfl) ?_ ?_
    ·intro w' hC; obtain ⟨y1, y2, y3⟩ := HC.out w' hC; clear hC; go_simp
    simp only [Pu]
    refine f_new (Zw n) 45 #[.agg #[.pointer (some ⟨d, 0, none⟩), .int .i64 n, .string s]] (by rfl) (by intro w' hC; clear hC; go_simp) ?_ ?_
    ·intro w' hC hks; exact (HFB.out w').mono fun e w'' ⟨g2, he, hlt, hsl, hgr⟩ => ⟨some ⟨g2, 0, none⟩, 5, 5, he, hsl, hgr⟩
    intro FA fc
    simp only [Pu]
    refine Jb 99 #[.slice B m dd, .slice FA (Zw n).length fc] (.bool q) (by rfl) (by intro w' hC; clear hC; go_simp) ?_ ?_
    ·intro w' hC hks; have he := Znh w' (HEQ.out w' hC) (Known.get hks 0 rfl rfl); rw [HQ.out] at he; exact he.mono fun e w'' hh => ⟨hh.1, hh.2 ▸ Grows.refl _⟩
    simp only [Pu]
    iterate 2
     refine f_val _ (by rfl) ?_ ?_
     ·intro w' hC; clear hC; go_simp
     simp only [Pu]
    refine Zv ?_
    intro w5 hC hks
    have HCw5 := hid hC
    clear hC hks
    go_wp2_with (fail)
    go_ret
    exact ⟨rfl, Grows.trans HG.out HCw5.out⟩
end Go.Proofs.YtlldcogkcjnejaaGreat
namespace Go.Proofs.YtlldcogkcjnejaaGreat
open Go.RowKit Go.Shelf
attribute [local go_sem] Oper.semAt_some
theorem Jh {n₀ m b i : Nat} {X Y : World} (u : Value) (hY : X.setCell ⟨b, i, none⟩ u = Y) (h1 : n₀ ≤ b) (h2 : b < m) : Zc (fun k => n₀ ≤ k ∧ k < m) X Y := hY ▸ (Zc.refl _ X).setCell (p := ⟨b, i, none⟩) ⟨h1, h2⟩ u
theorem Zah {X Y : World} {g t i : Nat} {cs : Array Value} (u : Value) (h : Whole X g t cs) (hY : X.setCell ⟨g, i, none⟩ u = Y) : Whole Y g t (cs.setIfInBounds i u) := hY ▸ h.put i u
theorem Zr {X Y : World} {g t b i : Nat} {cs : Array Value} (u : Value) (h : Whole X g t cs) (hY : X.setCell ⟨b, i, none⟩ u = Y) (hne : g ≠ b) : Whole Y g t cs := hY ▸ h.elsewhere (p := ⟨b, i, none⟩) hne u
end Go.Proofs.YtlldcogkcjnejaaGreat
