/-
  rec.Right and rec.Put, of any record.
-/
import Derived.Test.YtmfhpfehphbklaaRcDo
import Derived.Test.YtmfhpfehphbklaaRcRoot
namespace Go.Proofs.Ytmfhpfehphbklaa
open Go.RowKit
set_option linter.unusedSimpArgs false
set_option linter.unusedVariables false
instance (r : Rc) : Decidable (PieceOk r) := by unfold PieceOk; infer_instance
instance (r : Rc) : Decidable (RootOk r) := by unfold RootOk; infer_instance
instance (r : Rc) : Decidable (InlineOk r) := by unfold InlineOk Bare; infer_instance
instance (r : Rc) : Decidable (TombOk r) := by unfold TombOk Bare; infer_instance

theorem call_rightPiece (a : Array Value) (w : World) : (callFunc 68 a).run Try.prog w = .ok (.enter 68 a) w := by kernel_rfl
theorem call_putPiece (a : Array Value) (w : World) : (callFunc 69 a).run Try.prog w = .ok (.enter 69 a) w := by kernel_rfl
theorem call_rightRoot (a : Array Value) (w : World) : (callFunc 71 a).run Try.prog w = .ok (.enter 71 a) w := by kernel_rfl
theorem call_putRoot (a : Array Value) (w : World) : (callFunc 72 a).run Try.prog w = .ok (.enter 72 a) w := by kernel_rfl
theorem call_rightInline (a : Array Value) (w : World) : (callFunc 74 a).run Try.prog w = .ok (.enter 74 a) w := by kernel_rfl
theorem call_putInline (a : Array Value) (w : World) : (callFunc 75 a).run Try.prog w = .ok (.enter 75 a) w := by kernel_rfl
theorem call_rightTomb (a : Array Value) (w : World) : (callFunc 77 a).run Try.prog w = .ok (.enter 77 a) w := by kernel_rfl
theorem call_putTomb (a : Array Value) (w : World) : (callFunc 78 a).run Try.prog w = .ok (.enter 78 a) w := by kernel_rfl
theorem right_Piece {r : Rc} (h : r.kind = 1) : RightR r ↔ PieceOk r := by
  unfold RightR
  rw [h]
  simp
theorem right_Root {r : Rc} (h : r.kind = 2) : RightR r ↔ RootOk r := by
  unfold RightR
  rw [h]
  simp
theorem right_Inline {r : Rc} (h : r.kind = 3) : RightR r ↔ InlineOk r := by
  unfold RightR
  rw [h]
  simp
theorem right_Tomb {r : Rc} (h : r.kind = 4) : RightR r ↔ TombOk r := by
  unfold RightR
  rw [h]
  simp
theorem right_else {r : Rc} (h : ¬ (r.kind = 1 ∨ r.kind = 2 ∨ r.kind = 3 ∨ r.kind = 4)) : ¬ RightR r := by
  unfold RightR
  omega
section
variable (r : Rc) (LA : Option Addr) (ln lc : Nat) (BA : Option Addr) (bn bc : Nat) (w : World)

theorem is_Piece (hin : RcIn w LA ln lc BA bn bc r) (w1 : World) (hg : Grows w w1) :
    Calls Try.prog 68 #[.agg #[.int .i64 r.kind, .string ⟨r.key.toArray⟩, .int .i64 r.id, .int .i64 r.no, .int .i64 r.size, .slice LA ln lc, .slice BA bn bc]] w1 fun e w2 => e = .returned (.bool (decide (PieceOk r))) ∧ Below w1.heap.size w1 w2 := by
  refine (rightPiece_any _ _ _ _ _ _ _ _ _ _ _ w1).mono ?_
  rintro e w2 ⟨rfl, hb⟩
  refine ⟨ret_bool ?_, hb⟩
  have h1 := hin.locs.len
  have h2 := hin.sl.len
  subst h1 h2
  rw [decide_eq_decide, str_size]
  rfl
theorem is_Root (hin : RcIn w LA ln lc BA bn bc r) (w1 : World) (hg : Grows w w1) :
    Calls Try.prog 71 #[.agg #[.int .i64 r.kind, .string ⟨r.key.toArray⟩, .int .i64 r.id, .int .i64 r.no, .int .i64 r.size, .slice LA ln lc, .slice BA bn bc]] w1 fun e w2 => e = .returned (.bool (decide (RootOk r))) ∧ Below w1.heap.size w1 w2 := by
  refine (rightRoot_any _ _ _ _ _ _ _ _ _ _ _ r.locs w1 (hin.locs.grow hg)).mono ?_
  rintro e w2 ⟨rfl, hb⟩
  refine ⟨ret_bool ?_, hb⟩
  have h1 := hin.locs.len
  have h2 := hin.sl.len
  subst h1 h2
  rw [decide_eq_decide, str_size]
  rfl
theorem is_Inline (hin : RcIn w LA ln lc BA bn bc r) (w1 : World) (hg : Grows w w1) :
    Calls Try.prog 74 #[.agg #[.int .i64 r.kind, .string ⟨r.key.toArray⟩, .int .i64 r.id, .int .i64 r.no, .int .i64 r.size, .slice LA ln lc, .slice BA bn bc]] w1 fun e w2 => e = .returned (.bool (decide (InlineOk r))) ∧ Below w1.heap.size w1 w2 := by
  refine (rightInline_any _ _ _ _ _ _ _ _ _ _ _ w1).mono ?_
  rintro e w2 ⟨rfl, hb⟩
  refine ⟨ret_bool ?_, hb⟩
  have h1 := hin.locs.len
  have h2 := hin.sl.len
  subst h1 h2
  rw [decide_eq_decide, str_size]
  rfl
theorem is_Tomb (hin : RcIn w LA ln lc BA bn bc r) (w1 : World) (hg : Grows w w1) :
    Calls Try.prog 77 #[.agg #[.int .i64 r.kind, .string ⟨r.key.toArray⟩, .int .i64 r.id, .int .i64 r.no, .int .i64 r.size, .slice LA ln lc, .slice BA bn bc]] w1 fun e w2 => e = .returned (.bool (decide (TombOk r))) ∧ Below w1.heap.size w1 w2 := by
  refine (rightTomb_any _ _ _ _ _ _ _ _ _ _ _ w1).mono ?_
  rintro e w2 ⟨rfl, hb⟩
  refine ⟨ret_bool ?_, hb⟩
  have h1 := hin.locs.len
  have h2 := hin.sl.len
  subst h1 h2
  rw [decide_eq_decide, str_size]
  rfl

theorem rcright_any (hin : RcIn w LA ln lc BA bn bc r) :
    Calls Try.prog 16 #[.agg #[.int .i64 r.kind, .string ⟨r.key.toArray⟩, .int .i64 r.id, .int .i64 r.no, .int .i64 r.size, .slice LA ln lc, .slice BA bn bc]] w fun e w' => e = .returned (.bool (decide (RightR r))) ∧ Below w.heap.size w w' := by
  by_cases h1 : r.kind = 1
  · rw [show decide (RightR r) = decide (PieceOk r) from decide_eq_decide.2 (right_Piece h1)]
    exact right_of _ _ _ _ _ _ _ _ _ _ _ w _ _ _ _ (by rw [h1]; rfl) (by rw [h1]; rfl) call_rightPiece (fun w1 hg => is_Piece r LA ln lc BA bn bc w hin w1 hg)
  by_cases h2 : r.kind = 2
  · rw [show decide (RightR r) = decide (RootOk r) from decide_eq_decide.2 (right_Root h2)]
    exact right_of _ _ _ _ _ _ _ _ _ _ _ w _ _ _ _ (by rw [h2]; rfl) (by rw [h2]; rfl) call_rightRoot (fun w1 hg => is_Root r LA ln lc BA bn bc w hin w1 hg)
  by_cases h3 : r.kind = 3
  · rw [show decide (RightR r) = decide (InlineOk r) from decide_eq_decide.2 (right_Inline h3)]
    exact right_of _ _ _ _ _ _ _ _ _ _ _ w _ _ _ _ (by rw [h3]; rfl) (by rw [h3]; rfl) call_rightInline (fun w1 hg => is_Inline r LA ln lc BA bn bc w hin w1 hg)
  by_cases h4 : r.kind = 4
  · rw [show decide (RightR r) = decide (TombOk r) from decide_eq_decide.2 (right_Tomb h4)]
    exact right_of _ _ _ _ _ _ _ _ _ _ _ w _ _ _ _ (by rw [h4]; rfl) (by rw [h4]; rfl) call_rightTomb (fun w1 hg => is_Tomb r LA ln lc BA bn bc w hin w1 hg)
  rw [decide_eq_false (right_else (by omega))]
  exact right_none _ _ _ _ _ _ _ _ _ _ _ w (by unfold wayOf; rw [if_neg h1, if_neg h2, if_neg h3, if_neg h4]) (decide_eq_false (by omega))

theorem put_own (hin : RcIn w LA ln lc BA bn bc r) :
    Calls Try.prog 18 #[.agg #[.int .i64 r.kind, .string ⟨r.key.toArray⟩, .int .i64 r.id, .int .i64 r.no, .int .i64 r.size, .slice LA ln lc, .slice BA bn bc]] w fun e w' => ∃ A' m c', e = .returned (.slice A' m c') ∧ w'.ownsRow w.heap.size 5 1 (.slice A' m c') m ((putR r).map byteV) ∧ Below w.heap.size w w' := by
  have hl1 := hin.locs.len
  have hl2 := hin.sl.len
  by_cases h1 : r.kind = 1
  · have e : putR r = if decide (PieceOk r) = true then byteI r.kind :: (numB r.id 6 ++ (numB r.no 2 ++ r.b)) else [] := by
      unfold putR bodyR
      by_cases hr : PieceOk r
      · rw [if_pos ((right_Piece h1).2 hr), decide_eq_true hr, if_pos rfl, if_pos h1]
      · rw [if_neg (fun h => hr ((right_Piece h1).1 h)), decide_eq_false hr]
        rfl
    rw [e]
    refine put_of _ _ _ _ _ _ _ _ _ _ _ w _ _ _ _ (by rw [h1]; rfl) (by rw [h1]; rfl) call_rightPiece (fun w1 hg => is_Piece r LA ln lc BA bn bc w hin w1 hg) _ call_putPiece ?_
    intro hq W A c hg ho
    have hq := of_decide_eq_true hq
    refine (putPiece_own w.heap.size A 1 c _ _ _ _ _ _ LA ln lc BA bn bc W ho hg.size (by omega) r.b w hin.sl hg (Nat.le_refl _) (by have := hq.2.2.2.2.2.2; omega)).mono ?_
    rintro e w' ⟨A', c', rfl, ho', hb'⟩
    refine ⟨A', _, c', rfl, ?_, hb'⟩
    first
      | exact ho'
      | (rw [hl1]; simpa [List.append_assoc] using ho')
      | simpa [List.append_assoc] using ho'
  by_cases h2 : r.kind = 2
  · have e : putR r = if decide (RootOk r) = true then byteI r.kind :: (keyP r.key ++ (numB r.id 6 ++ (numB r.size 3 ++ (numB r.locs.length 2 ++ locsB r.locs)))) else [] := by
      unfold putR bodyR
      by_cases hr : RootOk r
      · rw [if_pos ((right_Root h2).2 hr), decide_eq_true hr, if_pos rfl, if_neg (by omega), if_pos h2]
      · rw [if_neg (fun h => hr ((right_Root h2).1 h)), decide_eq_false hr]
        rfl
    rw [e]
    refine put_of _ _ _ _ _ _ _ _ _ _ _ w _ _ _ _ (by rw [h2]; rfl) (by rw [h2]; rfl) call_rightRoot (fun w1 hg => is_Root r LA ln lc BA bn bc w hin w1 hg) _ call_putRoot ?_
    intro hq W A c hg ho
    have hq := of_decide_eq_true hq
    refine (putRoot_own w.heap.size A 1 c _ _ _ _ _ _ LA ln lc BA bn bc W ho hg.size (by omega) hq.2.2.1.2 r.locs w hin.locs hg (Nat.le_refl _) (by have := hq.2.2.2.2.2.1; omega)).mono ?_
    rintro e w' ⟨A', c', rfl, ho', hb'⟩
    refine ⟨A', _, c', rfl, ?_, hb'⟩
    first
      | exact ho'
      | (rw [hl1]; simpa [List.append_assoc] using ho')
      | simpa [List.append_assoc] using ho'
  by_cases h3 : r.kind = 3
  · have e : putR r = if decide (InlineOk r) = true then byteI r.kind :: (keyP r.key ++ r.b) else [] := by
      unfold putR bodyR
      by_cases hr : InlineOk r
      · rw [if_pos ((right_Inline h3).2 hr), decide_eq_true hr, if_pos rfl, if_neg (by omega), if_neg (by omega), if_pos h3]
      · rw [if_neg (fun h => hr ((right_Inline h3).1 h)), decide_eq_false hr]
        rfl
    rw [e]
    refine put_of _ _ _ _ _ _ _ _ _ _ _ w _ _ _ _ (by rw [h3]; rfl) (by rw [h3]; rfl) call_rightInline (fun w1 hg => is_Inline r LA ln lc BA bn bc w hin w1 hg) _ call_putInline ?_
    intro hq W A c hg ho
    have hq := of_decide_eq_true hq
    refine (putInline_own w.heap.size A 1 c _ _ _ _ _ _ LA ln lc BA bn bc W ho hg.size (by omega) hq.2.1.2 r.b w hin.sl hg (Nat.le_refl _) (by have := hq.2.2; omega)).mono ?_
    rintro e w' ⟨A', c', rfl, ho', hb'⟩
    refine ⟨A', _, c', rfl, ?_, hb'⟩
    first
      | exact ho'
      | (rw [hl1]; simpa [List.append_assoc] using ho')
      | simpa [List.append_assoc] using ho'
  by_cases h4 : r.kind = 4
  · have e : putR r = if decide (TombOk r) = true then byteI r.kind :: (r.key) else [] := by
      unfold putR bodyR
      by_cases hr : TombOk r
      · rw [if_pos ((right_Tomb h4).2 hr), decide_eq_true hr, if_pos rfl, if_neg (by omega), if_neg (by omega), if_neg (by omega)]
      · rw [if_neg (fun h => hr ((right_Tomb h4).1 h)), decide_eq_false hr]
        rfl
    rw [e]
    refine put_of _ _ _ _ _ _ _ _ _ _ _ w _ _ _ _ (by rw [h4]; rfl) (by rw [h4]; rfl) call_rightTomb (fun w1 hg => is_Tomb r LA ln lc BA bn bc w hin w1 hg) _ call_putTomb ?_
    intro hq W A c hg ho
    have hq := of_decide_eq_true hq
    refine (putTomb_own w.heap.size A 1 c _ _ _ _ _ _ LA ln lc BA bn bc W ho hg.size (by omega) hq.2.1.2).mono ?_
    rintro e w' ⟨A', c', rfl, ho', hb'⟩
    refine ⟨A', _, c', rfl, ?_, hb'⟩
    first
      | exact ho'
      | (rw [hl1]; simpa [List.append_assoc] using ho')
      | simpa [List.append_assoc] using ho'
  refine (put_none _ _ _ _ _ _ _ _ _ _ _ w (by unfold wayOf; rw [if_neg h1, if_neg h2, if_neg h3, if_neg h4]) (decide_eq_false (by omega))).mono ?_
  rintro e w' ⟨rfl, hb⟩
  refine ⟨none, 0, 0, rfl, ?_, hb⟩
  unfold putR
  rw [if_neg (right_else (by omega))]
  exact World.ownsRow_nil _ _ _ _

end
end Go.Proofs.Ytmfhpfehphbklaa
