/-
  The walks of the answer that package scan is held against: its step, Next, All.
-/
import Derived.Test.YtchndjebgpibjaaRefAll
import Derived.Test.YtchndjebgpibjaaScanPlain
import Derived.Test.YtchndjebgpibjaaItemRow
import Derived.LoopTactic
import Derived.Lib.Hide
import Derived.IntWalk
namespace Go.Proofs.Ytchndjebgpibjaa
open Go.RowKit

/-- Bytes stay where something else is written. -/
theorem Sl.put {w : World} {A : Option Addr} {n c : Nat} {bs : List UInt8} (h : Sl w A n c bs) {q : Addr} {v : Value} (hq : w.cell? q = some v) (hv : ∀ b, v ≠ byteV b) (u : Value) : Sl (w.setCell q u) A n c bs := by
  refine ⟨⟨Row.len h.bytes, fun k x hx => ?_⟩, h.cap, h.bare⟩
  obtain ⟨ad, e, hb, hc⟩ := Row.spot h.bytes k x hx
  have hs : (w.setCell q u).heap.size = w.heap.size := by simp [World.setCell]
  refine ⟨ad, e, by rw [hs]; exact hb, ?_⟩
  rw [World.cell?_setCell_other w q _ u fun e => ?_]
  · exact hc
  · rw [← e, hq] at hc
    injection hc with hc
    rw [List.getElem?_map] at hx
    rcases hb' : bs[k]? with _ | b
    · rw [hb'] at hx; cases hx
    · rw [hb'] at hx
      simp only [Option.map_some, Option.some.injEq] at hx
      exact hv b (hc.trans hx.symm)
/-- An item is stored in a block of its own. -/
theorem item_put {B g x0 x1 : Nat} {w X : World} {A0 : Option Addr} {n0 c0 : Nat} {u0 u1 : Int} {A : Option Addr} {n c : Nat} (h : X.heap[g]? = some (.cells #[.int .i64 (x0 : Nat), .int .i64 (x1 : Nat), .slice A0 n0 c0] 29 (0, 0))) (hg : Below B w X) (hB : B ≤ g) :
    ∃ Y, ((X.setCell ⟨g, 0, none⟩ (.int .i64 u0)).setCell ⟨g, 1, none⟩ (.int .i64 u1)).setCell ⟨g, 2, none⟩ (.slice A n c) = Y ∧ Y.heap[g]? = some (.cells #[.int .i64 u0, .int .i64 u1, .slice A n c] 29 (0, 0)) ∧ Below B w Y ∧
      (∀ (A' : Option Addr) (m' c' : Nat) (bs : List UInt8), Sl X A' m' c' bs → Sl Y A' m' c' bs) ∧ ∀ (base : Nat) (t : TypeId) (size : Nat) (v : Value) (n : Nat) (xs : List Value), g < base → X.ownsRow base t size v n xs → Y.ownsRow base t size v n xs := by
  have k0 : Whole X g 29 #[.int .i64 (x0 : Nat), .int .i64 (x1 : Nat), .slice A0 n0 c0] := h
  have k1 := k0.put 0 (.int .i64 u0)
  have k2 := k1.put 1 (.int .i64 u1)
  have k3 := k2.put 2 (.slice A n c)
  refine ⟨_, rfl, k3, ((hg.setCell (p := ⟨g, 0, none⟩) hB _).setCell (p := ⟨g, 1, none⟩) hB _).setCell (p := ⟨g, 2, none⟩) hB _, fun A' m' c' bs hs => ?_, fun base t size v n xs hb ho => ownsRow_setCell_below (ownsRow_setCell_below (ownsRow_setCell_below ho hb _) hb _) hb _⟩
  exact ((hs.put (k0.cell 0) (fun b h => by cases h) _).put (k1.cell 1) (fun b h => by cases h) _).put (k2.cell 2) (fun b h => by cases h) _

set_option maxRecDepth 100000 in
set_option maxHeartbeats 4000000 in
theorem step_any (A : Option Addr) (N c : Nat) (bs : List UInt8) (a0 : Nat) (w : World) (hs : Sl w A N c bs) (hN : N ≤ 140737488351232) (ha : a0 ≤ N) :
    Calls Try.prog 20 #[.slice A N c, .int .i64 (a0 : Nat)] w fun e w' => ∃ A' m c', e = .returned (.tuple #[.agg #[.int .i64 ((nextB (bs.drop a0) a0).1.1 : Nat), .int .i64 ((nextB (bs.drop a0) a0).1.2.1 : Nat), .slice A' m c'], .int .i64 ((nextB (bs.drop a0) a0).2.2.1 : Nat), .int .i64 ((nextB (bs.drop a0) a0).2.1 : Nat), .int .i64 ((nextB (bs.drop a0) a0).2.2.2 : Nat)]) ∧
      w'.ownsRow w.heap.size 5 1 (.slice A' m c') m ((nextB (bs.drop a0) a0).1.2.2.map byteV) ∧ Below w.heap.size w w' := by
  have hl := hs.len
  have hcap := hs.cap
  have HS := Lib.hid hs
  clear hs
  have hW := heap_alloc_new w (.cells #[.int .i64 0, .int .i64 0, .slice none 0 0] 29)
  have HW := Lib.hid hW
  clear hW
  go_enter Try.func20, Try.ntmps20
  go_wp2_with (fail)
  go_loopw [1, 8] (fun i b wr => ∃ (k d : Nat), k ≤ N ∧ a0 ≤ k ∧ d ≤ k ∧ i = .int .i64 (k : Nat) ∧ b = .int .i64 (d : Nat) ∧ Hid (nextB (bs.drop a0) a0 = ((nextB (bs.drop k) k).1, d + (nextB (bs.drop k) k).2.1, (nextB (bs.drop k) k).2.2)) ∧
      Hid (wr.heap[w.heap.size]? = some (.cells #[.int .i64 0, .int .i64 0, .slice none 0 0] 29 (0, 0))) ∧ Hid (Grows w wr)) (fun i _ _ => N - (intOf i).toNat)
  case atStart => exact ⟨a0, 0, ha, Nat.le_refl _, Nat.zero_le _, rfl, rfl, Lib.hid (by rw [Nat.zero_add]), HW, Lib.hid (grows_alloc _ _)⟩
  case round =>
    obtain ⟨k, d, hk, hka, hdk, rfl, rfl, HE, HB, HG⟩ := hrel
    have r0 := cell_of_row wr w.heap.size 0 _ _ _ HB.out
    have r1 := cell_of_row wr w.heap.size 1 _ _ _ HB.out
    have r2 := cell_of_row wr w.heap.size 2 _ _ _ HB.out
    have t0 := frozen_of_row wr w.heap.size 0 _ _ HB.out
    have t1 := frozen_of_row wr w.heap.size 1 _ _ HB.out
    have t2 := frozen_of_row wr w.heap.size 2 _ _ HB.out
    simp only [List.getElem?_toArray, List.getElem?_cons_zero, List.getElem?_cons_succ] at r0 r1 r2
    by_cases hlt : k < N
    · obtain ⟨ad, rfl⟩ : ∃ ad, A = some ad := by
        obtain ⟨ad, h, _⟩ := HS.out.bytes.spot (k := 0) (by omega)
        exact ⟨ad, h⟩
      have hck : ¬ c = k := by omega
      have hcap' : (N : Int) ≤ (c : Int) := by omega
      have hk0 : (0 : Int) ≤ (k : Int) := by omega
      have hk1 : (k : Int) ≤ (N : Int) := by omega
      have hpart := (HS.out.grow HG.out).part (k := k) (m := N) (by omega) (Nat.le_refl _) hck
      rw [List.take_of_length_le (by omega)] at hpart
      have HP := Lib.hid hpart
      have hfs := first_size (bs := bs.drop k) (y := (firstB (bs.drop k)).1) (k := (firstB (bs.drop k)).2.1) (e := (firstB (bs.drop k)).2.2) rfl
      rw [List.length_drop, hl] at hfs
      have hne : bs.drop k ≠ [] := fun h => by have := congrArg List.length h; rw [List.length_drop] at this; simp at this; omega
      have hcall := refFirst_own _ _ _ _ _ HP.out (by omega)
      have hgot := fun (h : (firstB (bs.drop k)).2.2 = 0) => nextB_got (bs := bs.drop k) (y := (firstB (bs.drop k)).1) (k := (firstB (bs.drop k)).2.1) hne (by rw [← h]) k
      have hstop := fun (h : (firstB (bs.drop k)).2.2 ≠ 0) (h0 : (firstB (bs.drop k)).2.1 = 0) => nextB_stop (bs := bs.drop k) (y := (firstB (bs.drop k)).1) (e := (firstB (bs.drop k)).2.2) hne (by rw [← h0]) h k
      have hbad := fun (h : (firstB (bs.drop k)).2.2 ≠ 0) (h0 : (firstB (bs.drop k)).2.1 ≠ 0) => nextB_bad (bs := bs.drop k) (y := (firstB (bs.drop k)).1) (k := (firstB (bs.drop k)).2.1) hne rfl h h0 k
      generalize (firstB (bs.drop k)).1 = y at *
      generalize (firstB (bs.drop k)).2.1 = z at *
      generalize (firstB (bs.drop k)).2.2 = er at *
      rw [List.drop_drop] at hbad
      have HN := Lib.hid (And.intro hgot (And.intro hstop hbad))
      have HC := Lib.hid hcall
      have HF := Lib.hid hfs
      clear hpart hfs hne hcall hgot hstop hbad
      go_wp2_with (fail)
      refine HC.out.mono ?_
      rintro e w2 ⟨A2, m2, c2, rfl, hs2, hb2⟩
      have g2 : Grows wr w2 := hb2
      have hB2 := (g2.block _ (Array.getElem?_eq_some_iff.1 HB.out).1).trans HB.out
      have HS2 := Lib.hid hs2
      have HG2 := Lib.hid (Grows.trans HG.out g2)
      have HB2 := Lib.hid hB2
      have HB2W := Lib.hid (show w.heap.size < wr.heap.size from (Array.getElem?_eq_some_iff.1 HB.out).1)
      have u0 := cell_of_row w2 w.heap.size 0 _ _ _ hB2
      have u1 := cell_of_row w2 w.heap.size 1 _ _ _ hB2
      have u2 := cell_of_row w2 w.heap.size 2 _ _ _ hB2
      have v0 := frozen_of_row w2 w.heap.size 0 _ _ hB2
      have v1 := frozen_of_row w2 w.heap.size 1 _ _ hB2
      have v2 := frozen_of_row w2 w.heap.size 2 _ _ hB2
      simp only [List.getElem?_toArray, List.getElem?_cons_zero, List.getElem?_cons_succ] at u0 u1 u2
      have hz : k + z ≤ N := by have := HF.out.1; omega
      clear hs2 hb2 g2 hB2 r0 r1 r2 t0 t1 t2
      by_cases he : er = 0
      · subst he
        go_wp2_with (fail)
        obtain ⟨Y, hY, y1, y2, y3, y4⟩ := item_put (B := w.heap.size) (w := w) (x0 := 0) (x1 := 0) (A0 := none) (n0 := 0) (c0 := 0) (u0 := (k : Nat)) (u1 := (z : Nat)) (A := A2) (n := m2) (c := c2) HB2.out HG2.out (Nat.le_refl _)
        first | rw [hY] | (simp only [Int.natCast_zero] at hY; rw [hY])
        have q0 := cell_of_row Y w.heap.size 0 _ _ _ y1
        have q1 := cell_of_row Y w.heap.size 1 _ _ _ y1
        have q2 := cell_of_row Y w.heap.size 2 _ _ _ y1
        simp only [List.getElem?_toArray, List.getElem?_cons_zero, List.getElem?_cons_succ] at q0 q1 q2
        rw [HE.out, HN.out.1 trivial]
        refine bodyPost_ret (v := .tuple #[.agg #[.int .i64 (k : Nat), .int .i64 (z : Nat), .slice A2 m2 c2], .int .i64 ((k : Int) + (z : Int)), .int .i64 (d : Nat), .int .i64 0]) (by simp [results, Try.results20, go_sem, q0, q1, q2]) rfl ⟨A2, m2, c2, ?_, ?_, y2⟩
        · dsimp only
          rw [Int.natCast_add, Nat.add_zero]
          rfl
        · exact owned_from (y4 _ _ _ _ _ _ HB2W.out HS2.out) (Nat.le_of_lt HB2W.out)
      · have he' : ((er : Int) == 0) = false := by simp; omega
        by_cases hz0 : z = 0
        · have HZ0 := Lib.hid hz0
          have hz1 : ((z : Int) == 0) = true := by simp; omega
          clear hz0
          go_wp2_with (fail)
          obtain ⟨Y, hY, y1, y2, y3, y4⟩ := item_put (B := w.heap.size) (w := w) (x0 := 0) (x1 := 0) (A0 := none) (n0 := 0) (c0 := 0) (u0 := 0) (u1 := 0) (A := none) (n := 0) (c := 0) HB2.out HG2.out (Nat.le_refl _)
          first | rw [hY] | (simp only [Int.natCast_zero] at hY; rw [hY])
          have q0 := cell_of_row Y w.heap.size 0 _ _ _ y1
          have q1 := cell_of_row Y w.heap.size 1 _ _ _ y1
          have q2 := cell_of_row Y w.heap.size 2 _ _ _ y1
          simp only [List.getElem?_toArray, List.getElem?_cons_zero, List.getElem?_cons_succ] at q0 q1 q2
          rw [HE.out, HN.out.2.1 he HZ0.out]
          refine bodyPost_ret (v := .tuple #[.agg #[.int .i64 0, .int .i64 0, .slice none 0 0], .int .i64 (k : Nat), .int .i64 (d : Nat), .int .i64 (er : Nat)]) (by simp [results, Try.results20, go_sem, q0, q1, q2]) rfl ⟨none, 0, 0, ?_, ?_, y2⟩
          · dsimp only
            rw [Nat.add_zero]
            rfl
          · exact World.ownsRow_nil _ _ _ _
        · have hz1 : ((z : Int) == 0) = false := by simp; omega
          go_wp2_with (fail)
          go_roundw
          case rel =>
            refine ⟨k + z, d + 1, hz, by omega, by omega, by go_num, by go_num, Lib.hid ?_, HB2, HG2⟩
            rw [HE.out, HN.out.2.2 he hz0]
            dsimp only
            rw [Nat.add_assoc, Nat.add_comm 1]
          case measure => simp [intOf]; omega
    · obtain rfl : k = N := by omega
      go_wp2_with (fail)
      obtain ⟨Y, hY, y1, y2, y3, y4⟩ := item_put (B := w.heap.size) (w := w) (x0 := 0) (x1 := 0) (A0 := none) (n0 := 0) (c0 := 0) (u0 := 0) (u1 := 0) (A := none) (n := 0) (c := 0) HB.out HG.out (Nat.le_refl _)
      first | rw [hY] | (simp only [Int.natCast_zero] at hY; rw [hY])
      have q0 := cell_of_row Y w.heap.size 0 _ _ _ y1
      have q1 := cell_of_row Y w.heap.size 1 _ _ _ y1
      have q2 := cell_of_row Y w.heap.size 2 _ _ _ y1
      simp only [List.getElem?_toArray, List.getElem?_cons_zero, List.getElem?_cons_succ] at q0 q1 q2
      rw [HE.out, List.drop_of_length_le (by omega), nextB_nil]
      refine bodyPost_ret (v := .tuple #[.agg #[.int .i64 0, .int .i64 0, .slice none 0 0], .int .i64 (k : Nat), .int .i64 (d : Nat), .int .i64 0]) (by simp [results, Try.results20, go_sem, q0, q1, q2]) rfl ⟨none, 0, 0, ?_, ?_, y2⟩
      · dsimp only
        rw [Nat.add_zero]
        rfl
      · exact World.ownsRow_nil _ _ _ _

theorem refNext_out (A : Option Addr) (n c : Nat) (a0 : Int) (w : World) (h : a0 < 0 ∨ (n : Int) < a0) :
    Calls Try.prog 13 #[.slice A n c, .int .i64 a0] w fun e w' => e = .returned (.tuple #[.agg #[.int .i64 0, .int .i64 0, .slice none 0 0], .int .i64 a0, .int .i64 1]) ∧ Below w.heap.size w w' := by
  by_cases h1 : a0 < 0
  · have hd1 : decide (a0 < 0) = true := by simp; omega
    go_enter Try.func13, Try.ntmps13
    go_wp2_with (fail)
    exact bodyPost_ret (v := .tuple #[.agg #[.int .i64 0, .int .i64 0, .slice none 0 0], .int .i64 a0, .int .i64 1]) (by simp [results, Try.results13, go_sem]) rfl ⟨rfl, grows_alloc _ _⟩
  · have hd1 : decide (a0 < 0) = false := by simp; omega
    have hd2 : decide ((n : Int) < a0) = true := by simp; omega
    go_enter Try.func13, Try.ntmps13
    go_wp2_with (fail)
    exact bodyPost_ret (v := .tuple #[.agg #[.int .i64 0, .int .i64 0, .slice none 0 0], .int .i64 a0, .int .i64 1]) (by simp [results, Try.results13, go_sem]) rfl ⟨rfl, grows_alloc _ _⟩

set_option maxRecDepth 100000 in
set_option maxHeartbeats 2000000 in
theorem refNext_in (A : Option Addr) (N c : Nat) (bs : List UInt8) (a0 : Nat) (w : World) (hs : Sl w A N c bs) (hN : N ≤ 140737488351232) (ha : a0 ≤ N) :
    Calls Try.prog 13 #[.slice A N c, .int .i64 (a0 : Nat)] w fun e w' => ∃ A' m c', e = .returned (.tuple #[.agg #[.int .i64 ((nextB (bs.drop a0) a0).1.1 : Nat), .int .i64 ((nextB (bs.drop a0) a0).1.2.1 : Nat), .slice A' m c'], .int .i64 ((nextB (bs.drop a0) a0).2.2.1 : Nat), .int .i64 ((nextB (bs.drop a0) a0).2.2.2 : Nat)]) ∧
      w'.ownsRow w.heap.size 5 1 (.slice A' m c') m ((nextB (bs.drop a0) a0).1.2.2.map byteV) ∧ Below w.heap.size w w' := by
  have hd1 : decide ((a0 : Int) < 0) = false := by simp
  have hd2 : decide ((N : Int) < (a0 : Int)) = false := by simp; omega
  have hd3 : ¬ N < a0 := by omega
  have hW := heap_alloc_new w (.cells #[.int .i64 0, .int .i64 0, .slice none 0 0] 29)
  have hstep := step_any A N c bs a0 _ (hs.alloc (.cells #[.int .i64 0, .int .i64 0, .slice none 0 0] 29)) hN ha
  generalize nextB (bs.drop a0) a0 = r at *
  obtain ⟨⟨ra, rk, ry⟩, rb, rn, re⟩ := r
  dsimp only at hstep ⊢
  have HW := Lib.hid hW
  have HST := Lib.hid hstep
  clear hW hstep hs
  go_enter Try.func13, Try.ntmps13
  go_wp2_with (fail)
  refine HST.out.mono ?_
  rintro e w2 ⟨A2, m2, c2, rfl, ho2, hb2⟩
  have hB2 := (Below.block hb2 w.heap.size (by simp)).trans HW.out
  have u0 := cell_of_row w2 w.heap.size 0 _ _ _ hB2
  have u1 := cell_of_row w2 w.heap.size 1 _ _ _ hB2
  have u2 := cell_of_row w2 w.heap.size 2 _ _ _ hB2
  have v0 := frozen_of_row w2 w.heap.size 0 _ _ hB2
  have v1 := frozen_of_row w2 w.heap.size 1 _ _ hB2
  have v2 := frozen_of_row w2 w.heap.size 2 _ _ hB2
  simp only [List.getElem?_toArray, List.getElem?_cons_zero, List.getElem?_cons_succ] at u0 u1 u2
  have hlt : w.heap.size < w2.heap.size := (Array.getElem?_eq_some_iff.1 hB2).1
  have HB2 := Lib.hid hB2
  have HO2 := Lib.hid ho2
  have HG2 := Lib.hid (Grows.trans (grows_alloc w _) hb2)
  clear ho2 hb2 hB2
  go_wp2_with (fail)
  obtain ⟨Y, hY, y1, y2, y3, y4⟩ := item_put (B := w.heap.size) (w := w) (x0 := 0) (x1 := 0) (A0 := none) (n0 := 0) (c0 := 0) (u0 := (ra : Nat)) (u1 := (rk : Nat)) (A := A2) (n := m2) (c := c2) (X := w2) HB2.out HG2.out (Nat.le_refl _)
  rw [hY]
  obtain ⟨Z, hZ⟩ : ∃ Z, Y.alloc (.cells #[.int .i64 (ra : Nat), .int .i64 (rk : Nat), .slice A2 m2 c2] 29) = Z := ⟨_, rfl⟩
  rw [hZ]
  have gz : Grows Y Z := hZ ▸ grows_alloc _ _
  have y1 := (gz.block _ (Array.getElem?_eq_some_iff.1 y1).1).trans y1
  have q0 := cell_of_row Z w.heap.size 0 _ _ _ y1
  have q1 := cell_of_row Z w.heap.size 1 _ _ _ y1
  have q2 := cell_of_row Z w.heap.size 2 _ _ _ y1
  simp only [List.getElem?_toArray, List.getElem?_cons_zero, List.getElem?_cons_succ] at q0 q1 q2
  refine bodyPost_ret (v := .tuple #[.agg #[.int .i64 (ra : Nat), .int .i64 (rk : Nat), .slice A2 m2 c2], .int .i64 (rn : Nat), .int .i64 (re : Nat)]) (by simp [results, Try.results13, go_sem, q0, q1, q2]) rfl ⟨A2, m2, c2, rfl, ?_, y2.trans (gz.mono y2.size)⟩
  exact owned_from (owned_grow (y4 _ _ _ _ _ _ (by simp) HO2.out) gz) (by simp)
end Go.Proofs.Ytchndjebgpibjaa
