/-
  The walks of rec's rightLocs, and of the answer's locs.
-/
import Derived.Test.YtmfhpfehphbklaaLocs
import Derived.Test.YtmfhpfehphbklaaRcWithin
namespace Go.Proofs.Ytmfhpfehphbklaa
open Go.RowKit
set_option linter.unusedSimpArgs false

set_option maxRecDepth 100000 in
set_option maxHeartbeats 4000000 in
theorem rightLocs_any (kd : Int) (s : ByteArray) (id no size : Int) (LA : Option Addr) (ln lc : Nat) (BA : Option Addr) (bn bc : Nat) (ls : List Lc) (w : World) (hl : Locs w LA ln lc ls) :
    Calls Try.prog 95 #[.agg #[.int .i64 kd, .string s, .int .i64 id, .int .i64 no, .int .i64 size, .slice LA ln lc, .slice BA bn bc]] w fun e w' => e = .returned (.bool (decide (LocsOk ls size))) ∧ Below w.heap.size w w' := by
  have hlen := hl.len
  have HL := Lib.hid hl
  clear hl
  by_cases h512 : 512 < ln
  · have h1 : (512 : Int) < (ln : Int) := by omega
    go_enter Try.func95, Try.ntmps95
    go_wp2
    go_ret
    exact ⟨ret_bool (decide_eq_false fun h => by have := h.1; omega).symm, grows_alloc _ _⟩
  · have h1 : ¬ (512 : Int) < (ln : Int) := by omega
    go_enter Try.func95, Try.ntmps95
    go_wp2
    go_loopw [3, 13] (fun t i wr => ∃ (k : Nat) (z : Int), k ≤ ln ∧ i = .int .i64 (k : Nat) ∧ t = .int .i64 z ∧ Hid (Seen ls k z) ∧ Hid (Grows (w.alloc (.cells #[.int .i64 kd, .string s, .int .i64 id, .int .i64 no, .int .i64 size, .slice LA ln lc, .slice BA bn bc] 78)) wr)) (fun _ i _ => ln - (intOf i).toNat)
    case atStart => exact ⟨0, 0, by omega, rfl, rfl, Lib.hid (Seen.start _), Lib.hid (Grows.refl _)⟩
    case round =>
      obtain ⟨k, z, hk, rfl, rfl, HS, HG⟩ := hrel
      have hw := HG.out.whole (Whole.made w 78 #[.int .i64 kd, .string s, .int .i64 id, .int .i64 no, .int .i64 size, .slice LA ln lc, .slice BA bn bc])
      have c4 := hw.cell 4
      simp only [List.getElem?_toArray, List.getElem?_cons_zero, List.getElem?_cons_succ] at c4
      clear hw
      by_cases hlt : k < ln
      · obtain ⟨ad, rfl, p0, p1, p2⟩ := (HL.out.grow (Grows.trans (grows_alloc w _) HG.out)).spot hlt
        have hz := HS.out.bound
        have hnx := HS.out.next (by omega) (k := k)
        have hill := Seen.ill (ls := ls) (k := k) (by omega)
        have k0 : (0 : Int) ≤ (k : Int) := by omega
        have k1 : (k : Int) < (ln : Int) := by omega
        generalize ls.getD k (0, 0, 0) = l at *
        obtain ⟨l0, l1, l2⟩ := l
        dsimp only at p0 p1 p2 hnx
        have q0 := p0 wr (Grows.refl _)
        have q1 := p1 wr (Grows.refl _)
        have q2 := p2 wr (Grows.refl _)
        have HN := Lib.hid (And.intro hnx hill)
        clear p0 p1 p2 hnx hill
        by_cases hok : LocOk (l0, l1, l2)
        · obtain ⟨⟨a1, a2⟩, ⟨a3, a4⟩, a5, a6⟩ := hok
          dsimp only at a1 a2 a3 a4 a5 a6
          have hwr : IntKind.i64.wrap (z + l2) = z + l2 := IntWalk.i64_in _ ⟨by omega, by omega⟩
          have hw64 : wrap64 (z + l2) = z + l2 := by rw [← IntWalk.i64_left]; exact hwr
          go_wp2
          go_roundw
          case rel => exact ⟨k + 1, z + l2, by omega, by go_num, rfl, Lib.hid (HN.out.1 ⟨⟨a1, a2⟩, ⟨a3, a4⟩, a5, a6⟩), Lib.hid (Grows.trans HG.out (grows_alloc _ _))⟩
          case measure => simp [intOf]; omega
        · have HO := Lib.hid hok
          clear hok
          go_wp2
          all_goals first
            | (go_ret
               exact ⟨ret_bool (decide_eq_false (HN.out.2 HO.out size)).symm, Below.trans (grows_alloc w _) (Below.mono (Grows.trans HG.out (grows_alloc _ _)) (le_alloc _ _))⟩)
            | (exfalso
               simp only [Bool.not_eq_false', decide_eq_true_eq] at *
               refine HO.out ⟨⟨?_, ?_⟩, ⟨?_, ?_⟩, ?_, ?_⟩ <;> dsimp only <;> omega)
      · obtain rfl : k = ln := by omega
        have hall := HS.out
        have hdec : (z == size) = decide (LocsOk ls size) := by
          rw [Bool.eq_iff_iff, decide_eq_true_eq, beq_iff_eq]
          rw [← hlen] at hall
          exact (hall.all (by omega) size).symm
        have HD := Lib.hid hdec
        clear hdec hall
        go_wp2
        go_ret
        exact ⟨ret_bool HD.out, Below.trans (grows_alloc w _) (Below.mono HG.out (le_alloc _ _))⟩


set_option maxRecDepth 100000 in
set_option maxHeartbeats 4000000 in
theorem refLocs_any (size : Int) (LA : Option Addr) (ln lc : Nat) (ls : List Lc) (w : World) (hl : Locs w LA ln lc ls) :
    Calls Try.prog 43 #[.slice LA ln lc, .int .i64 size] w fun e w' => e = .returned (.bool (decide ((1 ≤ size ∧ size ≤ 65536) ∧ LocsOk ls size))) ∧ w = w' := by
  have hlen := hl.len
  have HL := Lib.hid hl
  obtain ⟨q, hq⟩ : ∃ q, decide ((1 ≤ size ∧ size ≤ 65536) ∧ LocsOk ls size) = q := ⟨_, rfl⟩
  rw [hq]
  have HQ := Lib.hid hq
  clear hl hq
  by_cases h512 : ln ≤ 512 ∧ 1 ≤ size ∧ size ≤ 65536
  · obtain ⟨h1, h2, h3⟩ := h512
    have g1 : ¬ (512 : Int) < (ln : Int) := by omega
    have g2 : ¬ size < 1 := by omega
    have g3 : ¬ (65536 : Int) < size := by omega
    go_enter Try.func43, Try.ntmps43
    go_wp2
    go_loop [5, 6] (fun t i => ∃ (k : Nat) (z : Int), k ≤ ln ∧ i = .int .i64 (k : Nat) ∧ t = .int .i64 z ∧ Hid (Seen ls k z)) (fun _ i => ln - (intOf i).toNat)
    case atStart => exact ⟨0, 0, by omega, rfl, rfl, Lib.hid (Seen.start _)⟩
    case round =>
      obtain ⟨k, z, hk, rfl, rfl, HS⟩ := hrel
      by_cases hlt : k < ln
      · obtain ⟨ad, rfl, p0, p1, p2⟩ := HL.out.spot hlt
        have hz := HS.out.bound
        have hnx := HS.out.next (by omega) (k := k)
        have hill := Seen.ill (ls := ls) (k := k) (by omega)
        have k0 : (0 : Int) ≤ (k : Int) := by omega
        have k1 : (k : Int) < (ln : Int) := by omega
        generalize ls.getD k (0, 0, 0) = l at *
        obtain ⟨l0, l1, l2⟩ := l
        dsimp only at p0 p1 p2 hnx
        have q0 := p0 w (Grows.refl _)
        have q1 := p1 w (Grows.refl _)
        have q2 := p2 w (Grows.refl _)
        have HN := Lib.hid (And.intro hnx hill)
        clear p0 p1 p2 hnx hill
        by_cases hok : LocOk (l0, l1, l2)
        · obtain ⟨⟨a1, a2⟩, ⟨a3, a4⟩, a5, a6⟩ := hok
          dsimp only at a1 a2 a3 a4 a5 a6
          have hwr : IntKind.i64.wrap (z + l2) = z + l2 := IntWalk.i64_in _ ⟨by omega, by omega⟩
          have hw64 : wrap64 (z + l2) = z + l2 := by rw [← IntWalk.i64_left]; exact hwr
          go_wp2
          go_round
          case rel => exact ⟨k + 1, z + l2, by omega, by go_num, rfl, Lib.hid (HN.out.1 ⟨⟨a1, a2⟩, ⟨a3, a4⟩, a5, a6⟩)⟩
          case measure => simp [intOf]; omega
        · have HO := Lib.hid hok
          clear hok
          go_wp2
          all_goals first
            | (go_ret
               exact ⟨ret_bool ((decide_eq_false (fun h => HN.out.2 HO.out size h.2)).symm.trans HQ.out), rfl⟩)
            | (exfalso
               try simp only [decide_eq_false_iff_not, decide_eq_true_eq] at *
               refine HO.out ⟨⟨?_, ?_⟩, ⟨?_, ?_⟩, ?_, ?_⟩ <;> dsimp only <;> omega)
      · obtain rfl : k = ln := by omega
        have hall := HS.out
        have hdec : (z == size) = decide ((1 ≤ size ∧ size ≤ 65536) ∧ LocsOk ls size) := by
          rw [Bool.eq_iff_iff, decide_eq_true_eq, beq_iff_eq]
          rw [← hlen] at hall
          rw [hall.all (by omega) size]
          omega
        have HD := Lib.hid hdec
        clear hdec hall
        go_wp2
        go_ret
        exact ⟨ret_bool (HD.out.trans HQ.out), rfl⟩
  · have hno : ¬ ((1 ≤ size ∧ size ≤ 65536) ∧ LocsOk ls size) := fun h => h512 ⟨by have := h.2.1; omega, h.1⟩
    have HN := Lib.hid hno
    have HO := Lib.hid h512
    clear hno h512
    go_enter Try.func43, Try.ntmps43
    go_wp2
    all_goals first
      | (go_ret
         exact ⟨ret_bool ((decide_eq_false HN.out).symm.trans HQ.out), rfl⟩)
      | (exfalso
         try simp only [decide_eq_false_iff_not, decide_eq_true_eq] at *
         refine HO.out ⟨?_, ?_, ?_⟩ <;> omega)
end Go.Proofs.Ytmfhpfehphbklaa
