/-
  The iterator of package scan: what comes, place by place, is handed to each round.
-/
import Derived.Test.YtdjlhdeejpndcaaRange
import Derived.Test.YtdjlhdeejpndcaaMO
import Derived.Test.YtdjlhdeejpndcaaScanPlain
import Derived.Shelf.Abstract
import Derived.Shelf.RegionOpen
import Derived.OwnWalkIn
import Derived.TacticsInMore
import Derived.LoopNIn
import Derived.LoopIn
import Derived.IntWalk
namespace Go.Proofs.Ytdjlhdeejpndcaa
open Go.RowKit Go.Shelf
attribute [local go_sem] Oper.semAt_some

theorem passable_any (a k : Nat) (A : Option Addr) (m c : Nat) (w : World) (hk : k ≤ 140737488351232) :
    Calls Try.prog 38 #[.agg #[.int .i64 (a : Nat), .int .i64 (k : Nat), .slice A m c]] w fun e w' => e = .returned (.bool (decide (0 < k))) ∧ Grows w w' := by
  by_cases h : 0 < k
  · have hd : decide (0 < k) = true := decide_eq_true h
    go_enter Try.func38, Try.ntmps38
    go_wp2_with (fail)
    go_ret
    exact ⟨by rw [hd]; try rfl, grows_alloc _ _⟩
  · obtain rfl : k = 0 := by omega
    go_enter Try.func38, Try.ntmps38
    go_wp2_with (fail)
    go_ret
    exact ⟨rfl, grows_alloc _ _⟩

theorem frames_any (A : Option Addr) (n c : Nat) (a0 : Nat) (w : World) :
    Calls Try.prog 37 #[.slice A n c, .int .i64 (a0 : Nat)] w fun e w' => e = .returned (.func (.func 47) #[] #[.pointer (some ⟨w.heap.size + 1, 0, none⟩), .pointer (some ⟨w.heap.size, 0, none⟩)]) ∧
      (w.alloc (.cells #[.slice A n c] 23)).alloc (.cells #[.int .i64 (a0 : Nat)] 3) = w' := by
  go_enter Try.func37, Try.ntmps37
  go_wp2_with (fail)
  go_ret
  exact ⟨rfl, rfl⟩

/-- At the fence that lets all in no depth is asked for. -/
theorem round_wide {P : Program} {n k l f : Nat} {tmps : Array Value} {assign body : Code} {w : World} {R : Ending → World → Prop} (h : RoundIn Fence.wide n P l f tmps assign body w R) : RoundIn Fence.wide k P l f tmps assign body w R :=
  ⟨h.1, fun c cs _ => h.2 c cs fun d hd => by cases hd⟩

/-- What comes in a round, with where its body lies. -/
abbrev Xv := Ev × Option Addr × Nat
def xItem (x : Xv) : Value := .agg #[.int .i64 (x.1.1 : Nat), .int .i64 (x.1.2.1 : Nat), .slice x.2.1 x.1.2.2.1.length x.2.2]
def xVals (x : Xv) : Array Value := #[xItem x, .int .i64 (x.1.2.2.2 : Nat)]
/-- What a round is told of it. -/
def Told (N a0 : Nat) (pre : List Xv) (x : Xv) (W0 W1 : World) : Prop :=
  x.1.1 = endE a0 (pre.map (·.1)) ∧
  W1.ownsRow W0.heap.size 5 1 (.slice x.2.1 x.1.2.2.1.length x.2.2) x.1.2.2.1.length (x.1.2.2.1.map byteV) ∧ x.1.1 + x.1.2.1 ≤ N ∧ (x.1.2.2.2 = 0 ∨ x.1.2.2.2 = 21 ∨ x.1.2.2.2 = 22) ∧ (x.1.2.2.2 = 0 → 9 ≤ x.1.2.1) ∧ (x.1.2.1 = 0 ∨ 9 ≤ x.1.2.1)

set_option maxRecDepth 100000 in
set_option maxHeartbeats 4000000 in
theorem frames_gives (n : Nat) (n₀ Bf Bb : Nat) (A : Option Addr) (N c : Nat) (bs : List UInt8) (a0 : Nat) (w : World) (hn₀ : n₀ ≤ w.heap.size) (hf : Boxed w Bf 3 (.int .i64 (a0 : Nat))) (hb : Boxed w Bb 23 (.slice A N c))
    (hs : Sl w A N c bs) (hlow : Bytes w n₀ A N bs) (hN : N ≤ 140737488351232) (ha : a0 ≤ N) :
    Gives Try.prog n 47 #[.pointer (some ⟨Bf, 0, none⟩), .pointer (some ⟨Bb, 0, none⟩)] xVals (Told N a0) (fun k => k < n₀ ∨ k = Bb) (fun xs => xs.map (·.1) = evB (bs.drop a0) a0) (fun pre => pre.map (·.1) <+: evB (bs.drop a0) a0) w := by
  intro l J Jx W hW hJ hJx hY h0
  have hl := hs.len
  have hcap := hs.cap
  have hbare := hs.bare
  have hfW : Boxed W Bf 3 (.int .i64 (a0 : Nat)) := (hW.block _ hf.lt).trans hf
  have hbW : Boxed W Bb 23 (.slice A N c) := (hW.block _ hb.lt).trans hb
  have hlowW : Bytes W n₀ A N bs := hlow.below (hW.mono hn₀)
  have hn1 : n₀ ≤ W.heap.size := Nat.le_trans hn₀ hW.size
  clear hs hlow hf hb hW hn₀
  have HN1 := Lib.hid hn1
  have HBARE := Lib.hid hbare
  have hfc := hfW.cell
  clear hn1 hbare hfW
  show CallsIn _ _ _ _ #[.func (.yield l) #[] #[], .pointer (some ⟨Bf, 0, none⟩), .pointer (some ⟨Bb, 0, none⟩)] _ _
  refine callsIn_of_wp Try.func47 rfl trivial ?_ rfl
  simp only [Try.ntmps47, List.size_toArray, List.length_cons, List.length_nil, Nat.reduceAdd, Nat.reduceSub, Array.replicate_succ, Array.replicate_zero, List.push_toArray, List.append_toArray, List.nil_append, List.cons_append]
  gi_wp2
  gi_loopw [4] (fun i wr => ∃ (pre : List Xv) (k : Nat), k ≤ N ∧ i = .int .i64 (k : Nat) ∧ Hid (pre.map (·.1) ++ evB (bs.drop k) k = evB (bs.drop a0) a0) ∧ Hid (k = endE a0 (pre.map (·.1))) ∧ J pre wr ∧ Hid (n₀ ≤ wr.heap.size) ∧ Hid (Boxed wr Bb 23 (.slice A N c)) ∧ Hid (Bytes wr n₀ A N bs)) (fun i _ => N - (intOf i).toNat)
  case atStart => exact ⟨[], a0, ha, rfl, Lib.hid rfl, Lib.hid rfl, h0, HN1, Lib.hid hbW, Lib.hid hlowW⟩
  case round =>
    obtain ⟨pre, k, hk, rfl, HEV, HKE, hj, HNW, HB, HL⟩ := hrel
    have hcb := HB.out.cell
    by_cases hlt : k < N
    · obtain ⟨ad, rfl⟩ : ∃ ad, A = some ad := by
        obtain ⟨ad, h, _⟩ := HL.out.spot (k := 0) (by omega)
        exact ⟨ad, h⟩
      have hck : ¬ c = k := by omega
      have hcap' : (N : Int) ≤ (c : Int) := by omega
      have hk0 : (0 : Int) ≤ (k : Int) := by omega
      have hk1 : (k : Int) ≤ (N : Int) := by omega
      have hslw : Sl wr (some ad) N c bs := ⟨HL.out.wider HNW.out, hcap, HBARE.out⟩
      have hpart := hslw.part (k := k) (m := N) (by omega) (Nat.le_refl _) hck
      rw [List.take_of_length_le (by omega)] at hpart
      have HP := Lib.hid hpart
      clear hslw hpart
      have hfe := first_err (bs.drop k)
      have hfs := first_size (bs := bs.drop k) (y := (firstB (bs.drop k)).1) (k := (firstB (bs.drop k)).2.1) (e := (firstB (bs.drop k)).2.2) rfl
      rw [List.length_drop, hl] at hfs
      have hne : bs.drop k ≠ [] := fun h => by have := congrArg List.length h; rw [List.length_drop] at this; simp at this; omega
      have hev := evB_cons (bs := bs.drop k) (y := (firstB (bs.drop k)).1) (k := (firstB (bs.drop k)).2.1) (e := (firstB (bs.drop k)).2.2) hne rfl k
      rw [List.drop_drop] at hev
      have hcall := first_own _ _ _ _ _ HP.out (by omega)
      generalize (firstB (bs.drop k)).1 = y at *
      generalize (firstB (bs.drop k)).2.1 = z at *
      generalize (firstB (bs.drop k)).2.2 = er at *
      have HFE := Lib.hid hfe
      have HFS := Lib.hid hfs
      have HE := Lib.hid hev
      have HNE := Lib.hid hne
      have HC := Lib.hid hcall
      clear hfe hfs hev hne hcall
      gi_wp2_with (fail)
      refine ⟨trivial, (fun h => by cases h), (callsIn_wide.2 HC.out).mono ?_⟩
      rintro e w2 ⟨A2, m2, c2, rfl, hown2, hb2⟩
      obtain rfl : y.length = m2 := by have := hown2.1; simp at this; omega
      have hgw : Grows wr w2 := hb2
      have hga := grows_alloc w2 (.cells #[.int .i64 (k : Nat), .int .i64 (z : Nat), .slice A2 y.length c2] 56)
      have htold : Told N a0 pre ((k, z, y, er), A2, c2) wr (w2.alloc (.cells #[.int .i64 (k : Nat), .int .i64 (z : Nat), .slice A2 y.length c2] 56)) :=
        ⟨HKE.out, owned_grow hown2 hga, by have := HFS.out.1; dsimp only; omega, HFE.out, HFS.out.2.1, HFS.out.1.imp id And.left⟩
      obtain ⟨fn, tmps, assign, body, hy, hR⟩ := hY pre ((k, z, y, er), A2, c2) wr _ hj (Grows.trans hgw hga) htold
      dsimp only [xVals, xItem] at hy
      have hz31 : z ≤ 140737488351232 := by have := HFS.out.1; omega
      have HGW := Lib.hid (Grows.trans hgw hga)
      have HR := Lib.hid hR
      have HSZ := Lib.hid hgw.size
      clear hown2 hb2 hgw hga htold hR
      gi_wp2_with (fail)
      refine ⟨(fun h => by cases h), RoundIn.mono (round_wide HR.out) ?_⟩
      rintro e W3 (⟨rfl, hJ3, hsz3, hk3⟩ | ⟨rfl, hJx3⟩)
      · have hB1 : (w2.alloc (.cells #[.int .i64 (k : Nat), .int .i64 (z : Nat), .slice A2 y.length c2] 56)).heap[w2.heap.size]? = some (.cells #[.int .i64 (k : Nat), .int .i64 (z : Nat), .slice A2 y.length c2] 56 (0, 0)) := heap_alloc_new w2 _
        have hszw : wr.heap.size ≤ w2.heap.size := HSZ.out
        have hB3 := (hk3 w2.heap.size (by simp) (.inr hszw)).trans hB1
        have hlt3 := (Array.getElem?_eq_some_iff.1 hB3).1
        have c0 := cell_of_row W3 w2.heap.size 0 _ _ _ hB3
        have c1 := cell_of_row W3 w2.heap.size 1 _ _ _ hB3
        have c2' := cell_of_row W3 w2.heap.size 2 _ _ _ hB3
        simp only [List.getElem?_toArray, List.getElem?_cons_zero, List.getElem?_cons_succ] at c0 c1 c2'
        have hBb : Boxed W3 Bb 23 (.slice (some ad) N c) := ((hk3 Bb (Nat.lt_of_lt_of_le HB.out.lt HGW.out.size) (.inl (.inr rfl))).trans (HGW.out.block _ HB.out.lt)).trans HB.out
        have hL3 : Bytes W3 n₀ (some ad) N bs := HL.out.carry fun p hp => by
          have h1 : p.block < wr.heap.size := Nat.lt_of_lt_of_le hp HNW.out
          rw [World.cell?_of_block (hk3 p.block (Nat.lt_of_lt_of_le h1 HGW.out.size) (.inl (.inl hp)))]
          exact HGW.out.cell h1
        have hn3 : n₀ ≤ W3.heap.size := Nat.le_trans HNW.out (Nat.le_trans HGW.out.size hsz3)
        have HB3 := Lib.hid hBb
        have HL3 := Lib.hid hL3
        have HN3 := Lib.hid hn3
        have hpass := passable_any k z A2 y.length c2 W3 hz31
        clear hk3 hB1 hB3 hBb hL3 hn3 hszw hsz3
        by_cases hz : z = 0
        · subst hz
          gi_wp2_with (fail)
          refine ⟨trivial, (fun h => by cases h), (callsIn_wide.2 hpass).mono ?_⟩
          rintro e W4 ⟨rfl, hg4⟩
          have hJ4 := hJ _ _ _ hJ3 hg4
          have HJ4 := Lib.hid hJ4
          clear hJ4 hpass
          gi_wp2_with (fail)
          refine bodyPost_ret (results_none rfl _ _ _) rfl ?_
          refine ⟨⟨_, rfl⟩, .inl ⟨_, ?_, HJ4.out⟩⟩
          rw [← HEV.out, HE.out]
          simp
        · have hdz : decide (0 < z) = true := by simp; omega
          rw [hdz] at hpass
          gi_wp2_with (fail)
          refine ⟨trivial, (fun h => by cases h), (callsIn_wide.2 hpass).mono ?_⟩
          rintro e W4 ⟨rfl, hg4⟩
          have hJ4 := hJ _ _ _ hJ3 hg4
          have HJ4 := Lib.hid hJ4
          have HG4 := Lib.hid hg4
          have hzk : k + z ≤ N := by have := HFS.out.1; omega
          clear hJ4 hpass hg4 hdz
          gi_wp2_with (fail)
          go_roundw
          case rel =>
            refine ⟨pre ++ [((k, z, y, er), A2, c2)], k + z, hzk, by go_num, Lib.hid ?_, Lib.hid (by rw [List.map_append, List.map_singleton, endE_snoc]), HJ4.out, Lib.hid (Nat.le_trans HN3.out HG4.out.size), Lib.hid ((HG4.out.block _ HB3.out.lt).trans HB3.out), Lib.hid (HL3.out.below (HG4.out.mono HN3.out))⟩
            rw [← HEV.out, HE.out, if_neg hz]
            simp
          case measure => simp [intOf]; omega
      · gi_wp2_with (fail)
        refine ⟨trivial, ?_⟩
        gi_wp2_with (fail)
        refine bodyPost_ret (results_none rfl _ _ _) rfl ?_
        refine ⟨⟨_, rfl⟩, .inr ⟨_, ?_, hJx3⟩⟩
        rw [← HEV.out, HE.out]
        refine ⟨_, by rw [List.map_append, List.append_assoc]; rfl⟩
    · obtain rfl : k = N := by omega
      gi_wp2_with (fail)
      go_end0
      refine ⟨⟨_, rfl⟩, .inl ⟨pre, ?_, hj⟩⟩
      rw [← HEV.out, List.drop_of_length_le (by omega), evB_nil, List.append_nil]
end Go.Proofs.Ytdjlhdeejpndcaa
