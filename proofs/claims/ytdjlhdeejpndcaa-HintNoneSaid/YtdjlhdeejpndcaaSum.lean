/-
  The walks of package sum: entry, Table, On, Of, and the tables and sums of the answer that they are held against.
-/
import Derived.Test.YtdjlhdeejpndcaaRows
import Derived.Test.YtdjlhdeejpndcaaWords
import Derived.Test.YtdjlhdeejpndcaaPlain
import Derived.WalkKit
import Derived.LoopTactic
import Derived.Outline
import Derived.Lib.Hide
import Derived.Below
import Derived.WalkLawsBesides
import Derived.WalkSpells
import Derived.Laws.BitsAllLaws
namespace Go.Proofs.Ytdjlhdeejpndcaa
open Go.RowKit

theorem odd_true (m : Nat) (hm : m < 4294967296) (h : m % 2 = 1) : (bits BinOp.and IntKind.u32 (↑m) 1 == 1) = true := by
  have := u32_and_nat m 1 hm (by omega)
  simp only [Int.natCast_one] at this
  rw [this, Nat.and_one_is_mod, h]; rfl
theorem odd_false (m : Nat) (hm : m < 4294967296) (h : ¬ m % 2 = 1) : (bits BinOp.and IntKind.u32 (↑m) 1 == 1) = false := by
  have := u32_and_nat m 1 hm (by omega)
  simp only [Int.natCast_one] at this
  rw [this, Nat.and_one_is_mod, show m % 2 = 0 from by omega]; rfl
theorem xor_poly (m : Nat) (hm : m < 4294967296) : bits BinOp.xor IntKind.u32 ((m : Int) / 2) 2197175160 = ((m / 2 ^^^ 2197175160 : Nat) : Int) := by
  have := u32_xor_nat (m / 2) 2197175160 (by omega) (by omega)
  rw [← this]; rfl

/-! sum.entry -/
set_option maxHeartbeats 400000 in
theorem entry_any (n : Nat) (w : World) (hn : n < 4294967296) :
    Calls Try.prog 46 #[.int .u32 n] w fun e w' => e = .returned (.int .u32 (iterN 8 n : Nat)) ∧ w = w' := by
  go_enter Try.func46, Try.ntmps46
  go_wp2
  go_loop [0, 4] (fun s i => ∃ k : Nat, k ≤ 8 ∧ i = .int .i64 k ∧ s = .int .u32 (iterN k n : Nat)) (fun _ i => 8 - (intOf i).toNat)
  case atStart => exact ⟨0, by omega, rfl, rfl⟩
  case round =>
    obtain ⟨k, hk, rfl, rfl⟩ := hrel
    have hb := iterN_lt k n hn
    generalize hm : iterN k n = m at *
    have Hm := Lib.hid hm
    clear hm
    by_cases hlt : k < 8
    · by_cases ho : m % 2 = 1
      · have h1 := odd_true m hb ho
        have Ho := Lib.hid ho
        clear ho
        go_wp2
        go_round
        case rel => exact ⟨k + 1, by omega, by go_num, by rw [xor_poly m hb, iterN, Hm.out, stepN, if_pos Ho.out]⟩
        case measure => simp [intOf]; omega
      · have h1 := odd_false m hb ho
        have Ho := Lib.hid ho
        clear ho
        go_wp2
        go_round
        case rel => exact ⟨k + 1, by omega, by go_num, by rw [iterN, Hm.out, stepN, if_neg Ho.out]; rfl⟩
        case measure => simp [intOf]; omega
    · go_wp2
      go_ret
      exact ⟨ret_int (by rw [show 8 = k by omega, Hm.out]), rfl⟩

/-! sum.Table -/
theorem zeroT (w : World) : (zeroValue 75).run Try.prog w = .ok (.agg (arrV fun _ => 0)) w := by kernel_rfl
theorem sizeT : (Try.prog.info? 75).map (·.size) = some 256 := by kernel_rfl
def upto (f : Nat → Nat) (k i : Nat) : Nat := if i < k then f i else 0
theorem upto_next (f : Nat → Nat) (k i : Nat) : upto f (k + 1) i = if i = k then f k else upto f k i := by
  unfold upto
  by_cases h : i = k
  · subst h; simp
  · rw [if_neg h]
    by_cases h' : i < k
    · rw [if_pos h', if_pos (by omega)]
    · rw [if_neg h', if_neg (by omega)]
theorem upto_all (f : Nat → Nat) (i : Nat) (h : i < 256) : upto f 256 i = f i := if_pos h

set_option maxRecDepth 100000 in
set_option maxHeartbeats 400000 in
theorem table_any (w : World) :
    Calls Try.prog 36 #[] w fun e w' => e = .returned (.agg (arrV tabN)) ∧ Below w.heap.size w w' := by
  have hz := zeroT
  go_enter Try.func36, Try.ntmps36
  go_wp2
  go_loopw [3] (fun i wr => ∃ k : Nat, k ≤ 256 ∧ i = .int .i64 k ∧ Whole wr w.heap.size 75 (arrV fun _ => 0) ∧ Whole wr (w.heap.size + 1) 75 (arrV (upto tabN k)) ∧ Below w.heap.size w wr) (fun i _ => 256 - (intOf i).toNat)
  case atStart =>
    refine ⟨0, by omega, rfl, ?_, ?_, ?_⟩
    · exact (Whole.made w _ _).alloc _
    · have h := Whole.made (w.alloc (.cells (arrV fun _ => 0) 75)) 75 (arrV fun _ => 0)
      simp only [World.size_alloc] at h
      exact h
    · exact ((Below.refl _ _).alloc (Nat.le_refl _) _).alloc (by simp) _
  case round =>
    obtain ⟨k, hk, rfl, h0, h1, hb⟩ := hrel
    by_cases hlt : k < 256
    · have hc := h1.cell k
      rw [arrV_get _ k hlt] at hc
      have hf := h1.free k
      have H1 := Lib.hid h1
      have H0 := Lib.hid h0
      clear h1 h0
      go_wp2_with (fail)
      refine (entry_any k _ (by omega)).mono ?_
      rintro e w' ⟨rfl, rfl⟩
      go_wp2_with (fail)
      go_roundw
      case rel =>
        refine ⟨k + 1, by omega, by go_num, H0.out.elsewhere (by simp) _, ?_, hb.setCell (by simp) _⟩
        have h := H1.out.put k (.int .u32 (tabN k : Nat))
        rw [arrV_set _ (upto tabN (k + 1)) k (tabN k) hlt (fun i _ => upto_next tabN k i)] at h
        exact h
      case measure => simp [intOf]; omega
    · obtain rfl : k = 256 := by omega
      rw [arrV_ext (upto_all tabN)] at h1
      have H1 := Lib.hid h1
      have H0 := Lib.hid h0
      clear h1 h0
      go_wp2_with (first
        | (refine wpList_load_row rfl 75 _ rfl (w.heap.size + 1) rfl 75 _ (0, 0) _ H1.out Try.underlying75 rfl (by rw [arrV_size]; exact sizeT) ?_)
        | (refine wpList_store_row rfl 75 _ _ rfl w.heap.size (arrV tabN) rfl rfl 75 _ H0.out (by rw [arrV_size]; exact sizeT) (by rw [arrV_size, arrV_size]) (arrV_one _) ?_))
      refine bodyPost_ret (results_cell_row rfl _ _ w.heap.size 75 (arrV tabN) (0, 0) _ rfl (setRow_heap wr w.heap.size _ _ 75 _ H0.out) Try.underlying75 rfl (by rw [arrV_size]; exact sizeT)) rfl ?_
      exact ⟨rfl, below_setRow hb (Nat.le_refl _) _⟩
end Go.Proofs.Ytdjlhdeejpndcaa
