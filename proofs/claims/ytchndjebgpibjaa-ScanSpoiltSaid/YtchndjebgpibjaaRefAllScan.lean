/-
  The walk of the answer's All.
-/
import Derived.Test.YtchndjebgpibjaaStep
import Derived.OwnWalk
namespace Go.Proofs.Ytchndjebgpibjaa
open Go.RowKit

set_option maxRecDepth 100000 in
set_option maxHeartbeats 4000000 in
theorem refScanAll (A : Option Addr) (N c : Nat) (bs : List UInt8) (w : World) (hs : Sl w A N c bs) (hN : N ≤ 1000000) :
    Calls Try.prog 11 #[.slice A N c] w fun e w' => ∃ A' c' hs', e = .returned (.tuple #[.slice A' (allB bs 0).1.length c', .int .i64 ((allB bs 0).2.1 : Nat), .int .i64 ((allB bs 0).2.2.1 : Nat), .int .i64 ((allB bs 0).2.2.2 : Nat)]) ∧
      w'.ownsRow w.heap.size 29 3 (.slice A' (allB bs 0).1.length c') (allB bs 0).1.length (itCells (allB bs 0).1 hs') ∧ Bodies w' w.heap.size hs' (allB bs 0).1 ∧ Below w.heap.size w w' := by
  have hl := hs.len
  have HS := Lib.hid hs
  clear hs
  obtain ⟨i0, hi0, hz0, hz1, hz2⟩ := info_parts infoItem
  have HI := Lib.hid (And.intro hi0 (And.intro hz0 (And.intro hz1 hz2)))
  clear hi0 hz0 hz1 hz2
  go_enter Try.func11, Try.ntmps11
  go_wp2_with (fail)
  go_loopw [6, 7, 8] (fun o i b wr => ∃ (LA : Option Addr) (lc : Nat) (ts : List It) (hh : List Hd) (k d : Nat), k ≤ N ∧ d ≤ k ∧ 9 * ts.length ≤ k ∧ o = .slice LA ts.length lc ∧ i = .int .i64 (k : Nat) ∧ b = .int .i64 (d : Nat) ∧
      Hid (allB bs 0 = (ts ++ (allB (bs.drop k) k).1, d + (allB (bs.drop k) k).2.1, (allB (bs.drop k) k).2.2)) ∧ Hid (wr.ownsRow w.heap.size 29 3 (.slice LA ts.length lc) ts.length (itCells ts hh)) ∧ Hid (Bodies wr w.heap.size hh ts) ∧ Hid (Grows w wr)) (fun _ i _ _ => N - (intOf i).toNat)
  case atStart => exact ⟨none, 0, [], [], 0, 0, by omega, by omega, by simp, rfl, rfl, rfl, Lib.hid (by simp), Lib.hid (World.ownsRow_nil _ _ _ _), Lib.hid (Bodies.nil _ _), Lib.hid (Grows.refl _)⟩
  case round =>
    obtain ⟨LA, lc, ts, hh, k, d, hk, hdk, hts, rfl, rfl, rfl, HE, HO, HB, HG⟩ := hrel
    have hstep := step_any A N c bs k wr (HS.out.grow HG.out) (by omega) hk
    have hnx := all_next (bs.drop k).length (bs.drop k) k (Nat.le_refl _)
    have hne := next_end (bs.drop k).length (bs.drop k) k (Nat.le_refl _)
    rw [List.length_drop, hl] at hnx hne
    generalize nextB (bs.drop k) k = r at *
    obtain ⟨⟨ra, rk, ry⟩, rb, rn, re⟩ := r
    dsimp only at hstep hnx hne
    have HST := Lib.hid hstep
    have HNX := Lib.hid hnx
    obtain ⟨e1, e2, e3, e4, e5⟩ := hne
    clear hstep hnx
    go_wp2_with (fail)
    refine HST.out.mono ?_
    rintro e w2 ⟨A2, m2, c2, rfl, ho2, hb2⟩
    have hm2 : ry.length = m2 := by have := ho2.1; simp at this; omega
    subst hm2
    have g2 : Grows wr w2 := hb2
    have HG2 := Lib.hid g2
    have HO2 := Lib.hid ho2
    clear ho2 hb2 g2
    by_cases hz : rk = 0
    · have hz' : ((rk : Int) == 0) = true := by simp; omega
      have hall : allB (bs.drop k) k = ([], rb, rn, re) := by
        rcases HNX.out with h | h
        · exact h.2
        · have := h.1; omega
      have HALL := Lib.hid hall
      have hsum : d + rb ≤ 2 * N := by omega
      clear hall hz
      go_wp2_with (fail)
      have hE := HE.out
      rw [HALL.out, List.append_nil] at hE
      rw [hE]
      exact bodyPost_ret (v := .tuple #[.slice LA ts.length lc, .int .i64 ((d + rb : Nat) : Int), .int .i64 (rn : Nat), .int .i64 (re : Nat)]) (by simp [results, Try.results11, go_sem]) rfl
        ⟨LA, lc, hh, rfl, owned_grow (owned_grow HO.out HG2.out) (grows_alloc _ _), HB.out.step fun v n ys h => owned_grow (owned_grow h HG2.out) (grows_alloc _ _), Grows.trans HG.out (Grows.trans HG2.out (grows_alloc _ _))⟩
    · have hz' : ((rk : Int) == 0) = false := by simp; omega
      have hbig := HNX.out.resolve_left (fun h => hz h.1)
      rw [List.drop_drop] at hbig
      obtain ⟨b1, b2, b3, b4, b5⟩ := hbig
      have HB5 := Lib.hid b5
      have hW3 := Whole.made (w2.alloc (.cells #[.int .i64 (ra : Nat), .int .i64 (rk : Nat), .slice A2 ry.length c2] 29)) 29 #[.int .i64 (ra : Nat), .int .i64 (rk : Nat), .slice A2 ry.length c2]
      rw [World.size_alloc] at hW3
      have HW3 := Lib.hid hW3
      clear b5 b2 hW3
      go_wp2_with (first
        | (at_builtin
           refine list_append_item rfl (.tmp 32) (.tmp 34) rfl (base := w.heap.size) (LA := LA) (n := ts.length) (lc := lc) rfl (owned_grow (owned_grow (owned_grow HO.out HG2.out) (grows_alloc _ _)) (grows_alloc _ _)) HB.out.1.symm (ra, rk, ry) (A2, ry.length, c2) rfl HW3.out (by omega) (by have := HG.out.size; have := HG2.out.size; simp; omega) ?_
           intro A3 c3 w3 hown3 hb3 hk3
           have HOWN3 := Lib.hid hown3
           have HB3 := Lib.hid hb3
           have HK3 := Lib.hid hk3
           clear hown3 hb3 hk3))
      go_roundw
      case rel =>
        have up : ∀ (b' size : Nat) (v : Value) (m : Nat) (ys : List Value), w2.ownsRow b' 5 size v m ys → w3.ownsRow b' 5 size v m ys := fun b' size v m ys h => HK3.out _ _ _ _ _ (owned_grow (owned_grow h (grows_alloc _ _)) (grows_alloc _ _))
        refine ⟨A3, c3, ts ++ [(ra, rk, ry)], hh ++ [(A2, ry.length, c2)], rn, d + rb, by omega, by omega, by rw [List.length_append]; simp only [List.length_cons, List.length_nil]; omega, by rw [List.length_append]; rfl, rfl, by go_num, Lib.hid ?_, Lib.hid (by rw [List.length_append]; exact HOWN3.out), Lib.hid ?_, Lib.hid ?_⟩
        · rw [HE.out, HB5.out]
          dsimp only
          rw [show k + (rn - k) = rn by omega, List.append_assoc, Nat.add_assoc]
          rfl
        · exact (HB.out.step fun v n ys h => up _ _ _ _ _ (owned_grow h HG2.out)).snoc (up _ _ _ _ _ (owned_from HO2.out HG.out.size))
        · exact Below.trans (show Below w.heap.size w _ from Grows.trans (Grows.trans HG.out HG2.out) (Grows.trans (grows_alloc _ _) (grows_alloc _ _))) HB3.out
      case measure => simp [intOf]; omega
end Go.Proofs.Ytchndjebgpibjaa
