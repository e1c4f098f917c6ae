import Derived.Test.YtlldcogkcjnejaaGreatMG33
import Derived.Test.YtlldcogkcjnejaaGreatMG25
import Derived.Test.YtlldcogkcjnejaaGreatMG24
import Derived.LoopTactic
import Derived.Lib.Hide
import Derived.IntWalk
import Derived.OwnWalk
import Derived.Test.YtlldcogkcjnejaaGreatMG06
import Derived.Test.YtlldcogkcjnejaaGreatMG19
import Derived.Deep.SlicePairs
import Derived.Test.YtlldcogkcjnejaaGreatMG26
namespace Go.Proofs.YtlldcogkcjnejaaGreat
open Go.Lib (hid)
open Go.RowKit
theorem Sl.put {w : World} {A : Option Addr} {n c : Nat} {bs : List UInt8} (h : Sl w A n c bs) {q : Addr} {v : Value} (hq : w.cell? q = some v) (hv : ∀ b, v ≠ byteV b) (u : Value) : Sl (w.setCell q u) A n c bs := by
 refine ⟨⟨Row.len h.bytes, fun k x hx => ?_⟩, h.cap, h.bare⟩
 obtain ⟨ad, e, hb, hc⟩ := Row.spot h.bytes k x hx
 have hs : (w.setCell q u).heap.size = w.heap.size := by simp [World.setCell]
 refine ⟨ad, e, by rw [hs]; exact hb, ?_⟩
 rw [World.cell?_setCell_other w q _ u fun e => ?_]
 ·exact hc
 ·rw [← e, hq] at hc
  injection hc with hc
  rw [List.getElem?_map] at hx
  rcases hb' : bs[k]? with _ | b
  ·rw [hb'] at hx; cases hx
  ·rw [hb'] at hx
   simp only [Option.map_some, Option.some.injEq] at hx
   exact hv b (hc.trans hx.symm)
theorem Zgn {B g x0 x1 : Nat} {w X : World} {A0 : Option Addr} {n0 c0 : Nat} {u0 u1 : Int} {A : Option Addr} {n c : Nat} (h : X.heap[g]? = some (.cells #[.int .i64 (x0 : Nat), .int .i64 (x1 : Nat), .slice A0 n0 c0] 109 (0, 0))) (hg : Below B w X) (hB : B ≤ g) :
 ∃ Y, ((X.setCell ⟨g, 0, none⟩ (.int .i64 u0)).setCell ⟨g, 1, none⟩ (.int .i64 u1)).setCell ⟨g, 2, none⟩ (.slice A n c) = Y ∧ Y.heap[g]? = some (.cells #[.int .i64 u0, .int .i64 u1, .slice A n c] 109 (0, 0)) ∧ Below B w Y ∧
  (∀ (A' : Option Addr) (m' c' : Nat) (bs : List UInt8), Sl X A' m' c' bs → Sl Y A' m' c' bs) ∧ ∀ (base : Nat) (t : TypeId) (size : Nat) (v : Value) (n : Nat) (xs : List Value), g < base → X.ownsRow base t size v n xs → Y.ownsRow base t size v n xs := by
 have k0 : Whole X g 109 #[.int .i64 (x0 : Nat), .int .i64 (x1 : Nat), .slice A0 n0 c0] := h
 have k1 := k0.put 0 (.int .i64 u0)
 have k2 := k1.put 1 (.int .i64 u1)
 have k3 := k2.put 2 (.slice A n c)
 refine ⟨_, rfl, k3, ((hg.setCell (p := ⟨g, 0, none⟩) hB _).setCell (p := ⟨g, 1, none⟩) hB _).setCell (p := ⟨g, 2, none⟩) hB _, fun A' m' c' bs hs => ?_, fun base t size v n xs hb ho => ownsRow_setCell_below (ownsRow_setCell_below (ownsRow_setCell_below ho hb _) hb _) hb _⟩
 exact ((hs.put (k0.cell 0) (fun b h => by cases h) _).put (k1.cell 1) (fun b h => by cases h) _).put (k2.cell 2) (fun b h => by cases h) _
set_option maxRecDepth 100000 in
set_option maxHeartbeats 4000000 in
theorem Zqe (A : Option Addr) (N c : Nat) (bs : List UInt8) (a0 : Nat) (w : World) (hs : Sl w A N c bs) (hN : N ≤ 140737488351232) (ha : a0 ≤ N) :
 Calls Tryz.prog 108 #[.slice A N c, .int .i64 (a0 : Nat)] w fun e w' => ∃ A' m c', e = .returned (.tuple #[.agg #[.int .i64 ((nextB (bs.drop a0) a0).1.1 : Nat), .int .i64 ((nextB (bs.drop a0) a0).1.2.1 : Nat), .slice A' m c'], .int .i64 ((nextB (bs.drop a0) a0).2.2.1 : Nat), .int .i64 ((nextB (bs.drop a0) a0).2.1 : Nat), .int .i64 ((nextB (bs.drop a0) a0).2.2.2 : Nat)]) ∧
  w'.ownsRow w.heap.size 5 1 (.slice A' m c') m ((nextB (bs.drop a0) a0).1.2.2.map byteV) ∧ Below w.heap.size w w' := by
 have hl := hs.len
 have hcap := hs.cap
 have HS := hid hs
 clear hs
 have hW := heap_alloc_new w (.cells #[.int .i64 0, .int .i64 0, .slice none 0 0] 109)
 have HW := hid hW
 clear hW
 go_enter Tryz.func108, Tryz.ntmps108
 go_wp2_with (fail)
 go_loopw [1, 8] (fun i b wr => ∃ (k d : Nat), k ≤ N ∧ a0 ≤ k ∧ d ≤ k ∧ i = .int .i64 (k : Nat) ∧ b = .int .i64 (d : Nat) ∧ Hid (nextB (bs.drop a0) a0 = ((nextB (bs.drop k) k).1, d + (nextB (bs.drop k) k).2.1, (nextB (bs.drop k) k).2.2)) ∧
  Hid (wr.heap[w.heap.size]? = some (.cells #[.int .i64 0, .int .i64 0, .slice none 0 0] 109 (0, 0))) ∧ Hid (Grows w wr)) (fun i _ _ => N - (intOf i).toNat)
 case atStart => exact ⟨a0, 0, ha, Nat.le_refl _, Nat.zero_le _, rfl, rfl, hid (by rw [Nat.zero_add]), HW, hid (Zb _ _)⟩
 case round =>
  obtain ⟨k, d, hk, hka, hdk, rfl, rfl, HE, HB, HG⟩ := hrel
  have r0 := cell_of_row wr w.heap.size 0 _ _ _ HB.out
  have r1 := cell_of_row wr w.heap.size 1 _ _ _ HB.out
  have r2 := cell_of_row wr w.heap.size 2 _ _ _ HB.out
  have t0 := frozen_of_row wr w.heap.size 0 _ _ HB.out
  have t1 := frozen_of_row wr w.heap.size 1 _ _ HB.out
  have t2 := frozen_of_row wr w.heap.size 2 _ _ HB.out
  simp only [Gt] at r0 r1 r2
  by_cases hlt : k < N
  ·obtain ⟨ad, rfl⟩ : ∃ ad, A = some ad := by
    obtain ⟨ad, h, _⟩ := HS.out.bytes.spot (k := 0) (by omega)
    exact ⟨ad, h⟩
   have hck : ¬ c = k := by omega
   have hcap' : (N : Int) ≤ (c : Int) := by omega
   have hk0 : (0 : Int) ≤ (k : Int) := by omega
   have hk1 : (k : Int) ≤ (N : Int) := by omega
   have hpart := (HS.out.grow HG.out).part (k := k) (m := N) (by omega) (Nat.le_refl _) hck
   rw [List.take_of_length_le (by omega)] at hpart
   have HP := hid hpart
   have hfs := Yr (bs := bs.drop k) (y := (Zg (bs.drop k)).1) (k := (Zg (bs.drop k)).2.1) (e := (Zg (bs.drop k)).2.2) rfl
   rw [List.length_drop, hl] at hfs
   have hne : bs.drop k ≠ [] := fun h => by have := congrArg List.length h; rw [List.length_drop] at this; simp at this; omega
   have hcall := Zc8 _ _ _ _ _ HP.out (by omega)
   have hgot := fun (h : (Zg (bs.drop k)).2.2 = 0) => Zec (bs := bs.drop k) (y := (Zg (bs.drop k)).1) (k := (Zg (bs.drop k)).2.1) hne (by rw [← h]) k
   have hstop := fun (h : (Zg (bs.drop k)).2.2 ≠ 0) (h0 : (Zg (bs.drop k)).2.1 = 0) => Zcz (bs := bs.drop k) (y := (Zg (bs.drop k)).1) (e := (Zg (bs.drop k)).2.2) hne (by rw [← h0]) h k
   have hbad := fun (h : (Zg (bs.drop k)).2.2 ≠ 0) (h0 : (Zg (bs.drop k)).2.1 ≠ 0) => Zed (bs := bs.drop k) (y := (Zg (bs.drop k)).1) (k := (Zg (bs.drop k)).2.1) hne rfl h h0 k
   generalize (Zg (bs.drop k)).1 = y at *
   generalize (Zg (bs.drop k)).2.1 = z at *
   generalize (Zg (bs.drop k)).2.2 = er at *
   rw [List.drop_drop] at hbad
   have HN := hid (And.intro hgot (And.intro hstop hbad))
   have HC := hid hcall
   have HF := hid hfs
   clear hpart hfs hne hcall hgot hstop hbad
   go_wp2_with (fail)
   refine HC.out.mono ?_
   rintro e w2 ⟨A2, m2, c2, rfl, hs2, hb2⟩
   have g2 : Grows wr w2 := hb2
   have hB2 := (g2.block _ (Array.getElem?_eq_some_iff.1 HB.out).1).trans HB.out
   have HS2 := hid hs2
   have HG2 := hid (Grows.trans HG.out g2)
   have HB2 := hid hB2
   have HB2W := hid (show w.heap.size < wr.heap.size from (Array.getElem?_eq_some_iff.1 HB.out).1)
   have u0 := cell_of_row w2 w.heap.size 0 _ _ _ hB2
   have u1 := cell_of_row w2 w.heap.size 1 _ _ _ hB2
   have u2 := cell_of_row w2 w.heap.size 2 _ _ _ hB2
   have v0 := frozen_of_row w2 w.heap.size 0 _ _ hB2
   have v1 := frozen_of_row w2 w.heap.size 1 _ _ hB2
   have v2 := frozen_of_row w2 w.heap.size 2 _ _ hB2
   simp only [Gt] at u0 u1 u2
   have hz : k + z ≤ N := by have := HF.out.1; omega
   clear hs2 hb2 g2 hB2 r0 r1 r2 t0 t1 t2
   by_cases he : er = 0
   ·subst he
    go_wp2_with (fail)
    obtain ⟨Y, hY, y1, y2, y3, y4⟩ := Zgn (B := w.heap.size) (w := w) (x0 := 0) (x1 := 0) (A0 := none) (n0 := 0) (c0 := 0) (u0 := (k : Nat)) (u1 := (z : Nat)) (A := A2) (n := m2) (c := c2) HB2.out HG2.out (Nat.le_refl _)
    first | rw [hY] | (simp only [Int.natCast_zero] at hY; rw [hY])
    have q0 := cell_of_row Y w.heap.size 0 _ _ _ y1
    have q1 := cell_of_row Y w.heap.size 1 _ _ _ y1
    have q2 := cell_of_row Y w.heap.size 2 _ _ _ y1
    simp only [Gt] at q0 q1 q2
    rw [HE.out, HN.out.1 trivial]
    refine bodyPost_ret (v := .tuple #[.agg #[.int .i64 (k : Nat), .int .i64 (z : Nat), .slice A2 m2 c2], .int .i64 ((k : Int) + (z : Int)), .int .i64 (d : Nat), .int .i64 0]) (by simp [results, Tryz.results108, go_sem, q0, q1, q2]) rfl ⟨A2, m2, c2, ?_, ?_, y2⟩
    ·dsimp only
     rw [Int.natCast_add, Nat.add_zero]
     rfl
    ·exact Zj (y4 _ _ _ _ _ _ HB2W.out HS2.out) (Nat.le_of_lt HB2W.out)
   ·have he' : ((er : Int) == 0) = false := by simp; omega
    by_cases hz0 : z = 0
    ·have HZ0 := hid hz0
     have hz1 : ((z : Int) == 0) = true := by simp; omega
     clear hz0
     go_wp2_with (fail)
     obtain ⟨Y, hY, y1, y2, y3, y4⟩ := Zgn (B := w.heap.size) (w := w) (x0 := 0) (x1 := 0) (A0 := none) (n0 := 0) (c0 := 0) (u0 := 0) (u1 := 0) (A := none) (n := 0) (c := 0) HB2.out HG2.out (Nat.le_refl _)
     first | rw [hY] | (simp only [Int.natCast_zero] at hY; rw [hY])
     have q0 := cell_of_row Y w.heap.size 0 _ _ _ y1
     have q1 := cell_of_row Y w.heap.size 1 _ _ _ y1
     have q2 := cell_of_row Y w.heap.size 2 _ _ _ y1
     simp only [Gt] at q0 q1 q2
     rw [HE.out, HN.out.2.1 he HZ0.out]
     refine bodyPost_ret (v := .tuple #[.agg #[.int .i64 0, .int .i64 0, .slice none 0 0], .int .i64 (k : Nat), .int .i64 (d : Nat), .int .i64 (er : Nat)]) (by simp [results, Tryz.results108, go_sem, q0, q1, q2]) rfl ⟨none, 0, 0, ?_, ?_, y2⟩
     ·dsimp only
      rw [Nat.add_zero]
      rfl
     ·exact World.ownsRow_nil _ _ _ _
    ·have hz1 : ((z : Int) == 0) = false := by simp; omega
     go_wp2_with (fail)
     go_roundw
     case rel =>
      refine ⟨k + z, d + 1, hz, by omega, by omega, by go_num, by go_num, hid ?_, HB2, HG2⟩
      rw [HE.out, HN.out.2.2 he hz0]
      dsimp only
      rw [Nat.add_assoc, Nat.add_comm 1]
     case measure => simp [intOf]; omega
  ·obtain rfl : k = N := by omega
   go_wp2_with (fail)
   obtain ⟨Y, hY, y1, y2, y3, y4⟩ := Zgn (B := w.heap.size) (w := w) (x0 := 0) (x1 := 0) (A0 := none) (n0 := 0) (c0 := 0) (u0 := 0) (u1 := 0) (A := none) (n := 0) (c := 0) HB.out HG.out (Nat.le_refl _)
   first | rw [hY] | (simp only [Int.natCast_zero] at hY; rw [hY])
   have q0 := cell_of_row Y w.heap.size 0 _ _ _ y1
   have q1 := cell_of_row Y w.heap.size 1 _ _ _ y1
   have q2 := cell_of_row Y w.heap.size 2 _ _ _ y1
   simp only [Gt] at q0 q1 q2
   rw [HE.out, List.drop_of_length_le (by omega), Zeb]
   refine bodyPost_ret (v := .tuple #[.agg #[.int .i64 0, .int .i64 0, .slice none 0 0], .int .i64 (k : Nat), .int .i64 (d : Nat), .int .i64 0]) (by simp [results, Tryz.results108, go_sem, q0, q1, q2]) rfl ⟨none, 0, 0, ?_, ?_, y2⟩
   ·dsimp only
    rw [Nat.add_zero]
    rfl
   ·exact World.ownsRow_nil _ _ _ _
end Go.Proofs.YtlldcogkcjnejaaGreat
namespace Go.Proofs.YtlldcogkcjnejaaGreat
open Go.Lib (hid)
open Go.RowKit
set_option maxRecDepth 100000 in
set_option maxHeartbeats 4000000 in
theorem Zlh (A : Option Addr) (N c : Nat) (bs : List UInt8) (w : World) (hs : Sl w A N c bs) (hN : N ≤ 1000000) :
 Calls Tryz.prog 67 #[.slice A N c] w fun e w' => ∃ A' c' hs', e = .returned (.tuple #[.slice A' (allB bs 0).1.length c', .int .i64 ((allB bs 0).2.1 : Nat), .int .i64 ((allB bs 0).2.2.1 : Nat), .int .i64 ((allB bs 0).2.2.2 : Nat)]) ∧
  w'.ownsRow w.heap.size 109 3 (.slice A' (allB bs 0).1.length c') (allB bs 0).1.length (itCells (allB bs 0).1 hs') ∧ Y9 w' w.heap.size hs' (allB bs 0).1 ∧ Below w.heap.size w w' := by
 have hl := hs.len
 have HS := hid hs
 clear hs
 obtain ⟨i0, hi0, hz0, hz1, hz2⟩ := info_parts infoItem
 have HI := hid (And.intro hi0 (And.intro hz0 (And.intro hz1 hz2)))
 clear hi0 hz0 hz1 hz2
 go_enter Tryz.func67, Tryz.ntmps67
 go_wp2_with (fail)
 go_loopw [6, 7, 8] (fun o i b wr => ∃ (LA : Option Addr) (lc : Nat) (ts : List It) (hh : List Hd) (k d : Nat), k ≤ N ∧ d ≤ k ∧ 9 * ts.length ≤ k ∧ o = .slice LA ts.length lc ∧ i = .int .i64 (k : Nat) ∧ b = .int .i64 (d : Nat) ∧
  Hid (allB bs 0 = (ts ++ (allB (bs.drop k) k).1, d + (allB (bs.drop k) k).2.1, (allB (bs.drop k) k).2.2)) ∧ Hid (wr.ownsRow w.heap.size 109 3 (.slice LA ts.length lc) ts.length (itCells ts hh)) ∧ Hid (Y9 wr w.heap.size hh ts) ∧ Hid (Grows w wr)) (fun _ i _ _ => N - (intOf i).toNat)
 case atStart => exact ⟨none, 0, [], [], 0, 0, by omega, by omega, by simp, rfl, rfl, rfl, hid (by simp), hid (World.ownsRow_nil _ _ _ _), hid (Y9.nil _ _), hid (Grows.refl _)⟩
 case round =>
  obtain ⟨LA, lc, ts, hh, k, d, hk, hdk, hts, rfl, rfl, rfl, HE, HO, HB, HG⟩ := hrel
  have hstep := Zqe A N c bs k wr (HS.out.grow HG.out) (by omega) hk
  have hnx := all_next (bs.drop k).length (bs.drop k) k (Nat.le_refl _)
  have hne := next_end (bs.drop k).length (bs.drop k) k (Nat.le_refl _)
  rw [List.length_drop, hl] at hnx hne
  generalize nextB (bs.drop k) k = r at *
  obtain ⟨⟨ra, rk, ry⟩, rb, rn, re⟩ := r
  dsimp only at hstep hnx hne
  have HST := hid hstep
  have HNX := hid hnx
  obtain ⟨e1, e2, e3, e4, e5⟩ := hne
  clear hstep hnx
  go_wp2_with (fail)
  refine HST.out.mono ?_
  rintro e w2 ⟨A2, m2, c2, rfl, ho2, hb2⟩
  have hm2 : ry.length = m2 := by have := ho2.1; simp at this; omega
  subst hm2
  have g2 : Grows wr w2 := hb2
  have HG2 := hid g2
  have HO2 := hid ho2
  clear ho2 hb2 g2
  by_cases hz : rk = 0
  ·have hz' : ((rk : Int) == 0) = true := by simp; omega
   have hall : allB (bs.drop k) k = ([], rb, rn, re) := by
    rcases HNX.out with h | h
    ·exact h.2
    ·have := h.1; omega
   have HALL := hid hall
   have hsum : d + rb ≤ 2 * N := by omega
   clear hall hz
   go_wp2_with (fail)
   have hE := HE.out
   rw [HALL.out, List.append_nil] at hE
   rw [hE]
   exact bodyPost_ret (v := .tuple #[.slice LA ts.length lc, .int .i64 ((d + rb : Nat) : Int), .int .i64 (rn : Nat), .int .i64 (re : Nat)]) (by simp [results, Tryz.results67, go_sem]) rfl
    ⟨LA, lc, hh, rfl, Zd (Zd HO.out HG2.out) (Zb _ _), HB.out.step fun v n ys h => Zd (Zd h HG2.out) (Zb _ _), Grows.trans HG.out (Grows.trans HG2.out (Zb _ _))⟩
  ·have hz' : ((rk : Int) == 0) = false := by simp; omega
   have hbig := HNX.out.resolve_left (fun h => hz h.1)
   rw [List.drop_drop] at hbig
   obtain ⟨b1, b2, b3, b4, b5⟩ := hbig
   have HB5 := hid b5
   have hW3 := Whole.made (w2.alloc (.cells #[.int .i64 (ra : Nat), .int .i64 (rk : Nat), .slice A2 ry.length c2] 109)) 109 #[.int .i64 (ra : Nat), .int .i64 (rk : Nat), .slice A2 ry.length c2]
   rw [World.size_alloc] at hW3
   have HW3 := hid hW3
   clear b5 b2 hW3
   go_wp2_with (first
    | (at_builtin
       refine Zc9 rfl (.tmp 32) (.tmp 34) rfl (base := w.heap.size) (LA := LA) (n := ts.length) (lc := lc) rfl (Zd (Zd (Zd HO.out HG2.out) (Zb _ _)) (Zb _ _)) HB.out.1.symm (ra, rk, ry) (A2, ry.length, c2) rfl HW3.out (by omega) (by have := HG.out.size; have := HG2.out.size; simp; omega) ?_
       intro A3 c3 w3 hown3 hb3 hk3
       have HOWN3 := hid hown3
       have HB3 := hid hb3
       have HK3 := hid hk3
       clear hown3 hb3 hk3))
   go_roundw
   case rel =>
    have up : ∀ (b' size : Nat) (v : Value) (m : Nat) (ys : List Value), w2.ownsRow b' 5 size v m ys → w3.ownsRow b' 5 size v m ys := fun b' size v m ys h => HK3.out _ _ _ _ _ (Zd (Zd h (Zb _ _)) (Zb _ _))
    refine ⟨A3, c3, ts ++ [(ra, rk, ry)], hh ++ [(A2, ry.length, c2)], rn, d + rb, by omega, by omega, by rw [List.length_append]; simp only [List.length_cons, List.length_nil]; omega, by rw [List.length_append]; rfl, rfl, by go_num, hid ?_, hid (by rw [List.length_append]; exact HOWN3.out), hid ?_, hid ?_⟩
    ·rw [HE.out, HB5.out]
     dsimp only
     rw [show k + (rn - k) = rn by omega, List.append_assoc, Nat.add_assoc]
     rfl
    ·exact (HB.out.step fun v n ys h => up _ _ _ _ _ (Zd h HG2.out)).snoc (up _ _ _ _ _ (Zj HO2.out HG.out.size))
    ·exact Below.trans (show Below w.heap.size w _ from Grows.trans (Grows.trans HG.out HG2.out) (Grows.trans (Zb _ _) (Zb _ _))) HB3.out
   case measure => simp [intOf]; omega
end Go.Proofs.YtlldcogkcjnejaaGreat
namespace Go.Proofs.YtlldcogkcjnejaaGreat
open Go.ChangeShapes Go.WideShapes Go.ChangeAt Go.RowKit
section
variable {H : Type} {enc : TypeId × Value → H} {W : World} {base : Nat} {r : Reach}
set_option maxRecDepth 100000 in
theorem Zog {m : Nat} {a : Value} {x : DataW H × List MemPlace} (h : DataW.trod enc Tryz.prog W 0 (fun _ => true) true m 30 [a] = some x) : ∃ A n c ls, a = .slice A n c ∧ Locs W A n c ls := by
 have ce : Tryz.prog.cellsOf 105 = 3 := by kernel_rfl
 have ci : Tryz.prog.cellsOf 3 = 1 := by kernel_rfl
 rcases DataW.trod_slice Tryz.underlying30 h with ⟨hcs, _⟩ | ⟨ad, len, cap, elems, rest, k, _, hcs, _, _, hl, _, hlen, hel, _⟩
 ·simp at hcs
  exact ⟨none, 0, 0, [], hcs, Locs.nil _⟩
 ·simp at hcs
  have each : ∀ i, i < len → ∃ l : Lc, W.cell? (ad.add (i * 3)) = some (.int .i64 l.1) ∧ W.cell? (ad.add (i * 3 + 1)) = some (.int .i64 l.2.1) ∧ W.cell? (ad.add (i * 3 + 2)) = some (.int .i64 l.2.2) := by
   intro i hi
   have h1 := hel i hi
   rw [ce, List.getElem?_eq_getElem (by omega)] at h1
   obtain ⟨cs', h2, h3⟩ := Option.bind_eq_some_iff.1 h1
   obtain ⟨_, hlen', hcell⟩ := World.cells?_some h2
   obtain ⟨ys, k', _, _, _, hyl, hf⟩ := DataW.trod_struct Tryz.underlying105 h3
   match ys, hyl, cs', hlen' with
   | [y0, y1, y2], _, [v0, v1, v2], _ =>
     have g0 : DataW.trod enc Tryz.prog W 0 (fun _ => true) true k' 3 [v0] = some y0 := by
      have h := hf 0 { name := "Seg", type := 3, offset := 0, embedded := false, tag := "", pkgPath := "", byteOffset := 0 } rfl
      dsimp only at h
      rw [ci] at h
      exact h
     have g1 : DataW.trod enc Tryz.prog W 0 (fun _ => true) true k' 3 [v1] = some y1 := by
      have h := hf 1 { name := "At", type := 3, offset := 1, embedded := false, tag := "", pkgPath := "", byteOffset := 8 } rfl
      dsimp only at h
      rw [ci] at h
      exact h
     have g2 : DataW.trod enc Tryz.prog W 0 (fun _ => true) true k' 3 [v2] = some y2 := by
      have h := hf 2 { name := "N", type := 3, offset := 2, embedded := false, tag := "", pkgPath := "", byteOffset := 16 } rfl
      dsimp only at h
      rw [ci] at h
      exact h
     obtain ⟨z0, e0, _⟩ := DataW.trod_int Tryz.underlying3 g0
     obtain ⟨z1, e1, _⟩ := DataW.trod_int Tryz.underlying3 g1
     obtain ⟨z2, e2, _⟩ := DataW.trod_int Tryz.underlying3 g2
     have c0 := hcell 0 (by omega)
     have c1 := hcell 1 (by omega)
     have c2 := hcell 2 (by omega)
     rw [J5] at c0 c1 c2
     simp at c0 c1 c2 e0 e1 e2
     subst e0 e1 e2
     exact ⟨(z0, z1, z2), c0, c1, c2⟩
  obtain ⟨f, hf⟩ := Go.Deep.choose_lt each
  refine ⟨some ad, len, cap, (List.range len).map f, hcs, by simp, hl, (fun h => by cases h), ⟨by rw [lcCells_length]; simp, fun k v hv => ?_⟩⟩
  have hk : k < 3 * len := by
   rcases Nat.lt_or_ge k (3 * len) with h | h
   ·exact h
   ·rw [List.getElem?_eq_none (by rw [lcCells_length]; simpa using h)] at hv
    cases hv
  obtain ⟨i, j, e, hj, hi⟩ : ∃ i j, k = 3 * i + j ∧ j < 3 ∧ i < len := ⟨k / 3, k % 3, by omega, by omega, by omega⟩
  have hg : ((List.range len).map f)[i]? = some (f i) := by rw [List.getElem?_map, List.getElem?_range hi]; rfl
  obtain ⟨g0, g1, g2⟩ := lcCells_get _ i _ hg
  obtain ⟨c0, c1, c2⟩ := hf i hi
  have hcell : W.cell? (ad.add k) = some v := by
   match j, hj with
   | 0, _ =>
     subst e
     rw [show 3 * i + 0 = 3 * i from rfl] at hv ⊢
     rw [g0] at hv
     rw [Nat.mul_comm, c0]
     exact hv
   | 1, _ =>
     subst e
     rw [g1] at hv
     rw [Nat.mul_comm, c1]
     exact hv
   | 2, _ =>
     subst e
     rw [g2] at hv
     rw [Nat.mul_comm, c2]
     exact hv
  exact ⟨ad, rfl, by have := World.block_lt_of_cell? W _ hcell; rwa [Z4] at this, hcell⟩
end
end Go.Proofs.YtlldcogkcjnejaaGreat
namespace Go.Proofs.YtlldcogkcjnejaaGreat
open Go.ChangeShapes Go.WideShapes Go.ChangeAt Go.RowKit
instance : Inhabited (Rc × Fh) := ⟨(Rc.none, ((Option.none, 0, 0), (Option.none, 0, 0)))⟩
def rcL (x : Rc) (p : Fh) : List Value := [.int .i64 x.kind, .string ⟨x.key.toArray⟩, .int .i64 x.id, .int .i64 x.no, .int .i64 x.size, .slice p.1.1 p.1.2.1 p.1.2.2, .slice p.2.1 p.2.2.1 p.2.2.2]
structure Recs (w : World) (A : Option Addr) (n c : Nat) (rs : List Rc) : Prop where
 len : rs.length = n
 cap : n ≤ c
 spot : ∀ i, i < n → ∃ (ad : Addr) (r : Rc) (p : Fh), A = some ad ∧ ad.block < w.heap.size ∧ rs[i]? = some r ∧ RcIn w p.1.1 p.1.2.1 p.1.2.2 p.2.1 p.2.2.1 p.2.2.2 r ∧ ∀ k, k < 7 → w.cell? ((ad.add (i * 7)).add k) = (rcL r p)[k]?
section
variable {H : Type} {enc : TypeId × Value → H} {W : World} {base : Nat} {r : Reach}
end
end Go.Proofs.YtlldcogkcjnejaaGreat
