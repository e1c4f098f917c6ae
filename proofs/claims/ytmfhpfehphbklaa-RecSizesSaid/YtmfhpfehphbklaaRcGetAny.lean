/-
  rec's Get, of any bytes.
-/
import Derived.Test.YtmfhpfehphbklaaRcGet
namespace Go.Proofs.Ytmfhpfehphbklaa
open Go.RowKit
set_option linter.unusedSimpArgs false
set_option linter.unusedVariables false

set_option maxRecDepth 100000 in
set_option maxHeartbeats 4000000 in
theorem get_empty (A : Option Addr) (c : Nat) (w : World) :
    Calls Try.prog 14 #[.slice A 0 c] w fun e w' => ∃ LA ln lc BA bn bc, e = .returned (.tuple #[.agg #[.int .i64 0, .string ⟨#[]⟩, .int .i64 0, .int .i64 0, .int .i64 0, .slice LA ln lc, .slice BA bn bc], .bool false]) ∧ RcOwn w' w.heap.size LA ln lc BA bn bc Rc.none ∧ Below w.heap.size w w' := by
  have HZ := Lib.hid (Whole.made w 25 #[.int .i64 0, .string ⟨#[]⟩, .int .i64 0, .int .i64 0, .int .i64 0, .slice none 0 0, .slice none 0 0])
  have hz := HZ.out
  have zc0 := hz.cell 0
  have zf0 := hz.free 0
  have zc1 := hz.cell 1
  have zf1 := hz.free 1
  have zc2 := hz.cell 2
  have zf2 := hz.free 2
  have zc3 := hz.cell 3
  have zf3 := hz.free 3
  have zc4 := hz.cell 4
  have zf4 := hz.free 4
  have zc5 := hz.cell 5
  have zf5 := hz.free 5
  have zc6 := hz.cell 6
  have zf6 := hz.free 6
  simp only [List.getElem?_toArray, List.getElem?_cons_zero, List.getElem?_cons_succ] at zc0 zc1 zc2 zc3 zc4 zc5 zc6
  clear hz
  go_enter Try.func14, Try.ntmps14
  go_wp2_with (fail)
  first
    | (refine bodyPost_ret (results_row_tmp rfl _ _ w.heap.size _ _ _ _ _ _ _ _ (.bool false) rfl rfl HZ.out) rfl ?_
       exact ⟨none, 0, 0, none, 0, 0, rfl, RcOwn.nil _ _ _ _ _ _ _, grows_alloc _ _⟩)
   

set_option maxRecDepth 100000 in
set_option maxHeartbeats 4000000 in
theorem get_else (ad : Addr) (n c : Nat) (b0 : UInt8) (bs : List UInt8) (w : World) (hs : Sl w (some ad) n c (b0 :: bs)) (hn : n ≤ 140737488351232)
    (hf : wayOf (b0.toNat : Int) = wNone) (hk : decide ((b0.toNat : Int) = 1 ∨ (b0.toNat : Int) = 2 ∨ (b0.toNat : Int) = 3 ∨ (b0.toNat : Int) = 4) = false) :
    Calls Try.prog 14 #[.slice (some ad) n c] w fun e w' => ∃ LA ln lc BA bn bc, e = .returned (.tuple #[.agg #[.int .i64 0, .string ⟨#[]⟩, .int .i64 0, .int .i64 0, .int .i64 0, .slice LA ln lc, .slice BA bn bc], .bool false]) ∧ RcOwn w' w.heap.size LA ln lc BA bn bc Rc.none ∧ Below w.heap.size w w' := by
  have hlen := hs.len
  simp only [List.length_cons] at hlen
  have hlook : ∀ (w1 : World) (g : Nat), WaysAt w1 g → (Instr.lookup 74 (.map (some g)) (.int .i64 (b0.toNat : Int)) true).run Try.prog w1 = .ok (.tuple #[.agg #[.nilFunc, .nilFunc, .nilFunc], .bool false]) w1 := fun w1 g h => by
    have := look_is h (b0.toNat : Int)
    rw [hf, hk] at this
    exact this
  have HLK := Lib.hid hlook
  have hst := fun a m w => store_nil a m w
  have hb0 := b0.toNat_lt
  obtain ⟨_, e0, hab, hcell⟩ := hs.bytes.spot (k := 0) (by omega)
  injection e0 with e0
  subst e0
  simp only [List.getD_cons_zero, Addr.add_zero'] at hcell
  have hn0 : (1 : Int) ≤ (n : Int) := by omega
  clear hlook hf hk hs
  go_enter Try.func14, Try.ntmps14
  go_wp2_with (fail)
  refine (ways_any _).mono ?_
  rintro e w1 ⟨rfl, hw1, hb1⟩
  have hl0 := (HLK.out w1 _ hw1)
  have HW1 := Lib.hid (show Grows (w.alloc (.cells #[.int .i64 0, .string ⟨#[]⟩, .int .i64 0, .int .i64 0, .int .i64 0, .slice none 0 0, .slice none 0 0] 25)) w1 from hb1)
  have HZ1 := Lib.hid (HW1.out.whole (Whole.made w 25 #[.int .i64 0, .string ⟨#[]⟩, .int .i64 0, .int .i64 0, .int .i64 0, .slice none 0 0, .slice none 0 0]))
  simp only [World.size_alloc] at hl0
  clear hw1 hb1
  have HZ := Lib.hid ((grows_alloc w1 (.cells #[.nilFunc, .nilFunc, .nilFunc] 72)).whole HZ1.out)
  have HG := Lib.hid (Grows.trans (Grows.trans (grows_alloc w _) HW1.out) (grows_alloc w1 (.cells #[.nilFunc, .nilFunc, .nilFunc] 72)))
  have hz := HZ.out
  have zc0 := hz.cell 0
  have zf0 := hz.free 0
  have zc1 := hz.cell 1
  have zf1 := hz.free 1
  have zc2 := hz.cell 2
  have zf2 := hz.free 2
  have zc3 := hz.cell 3
  have zf3 := hz.free 3
  have zc4 := hz.cell 4
  have zf4 := hz.free 4
  have zc5 := hz.cell 5
  have zf5 := hz.free 5
  have zc6 := hz.cell 6
  have zf6 := hz.free 6
  simp only [List.getElem?_toArray, List.getElem?_cons_zero, List.getElem?_cons_succ] at zc0 zc1 zc2 zc3 zc4 zc5 zc6
  clear hz
  go_wp2_with (fail)
  obtain ⟨W, hW, hwh, hwt⟩ := store7 HZ.out (.int .i64 0) (.string ⟨#[]⟩) (.int .i64 0) (.int .i64 0) (.int .i64 0) (.slice none 0 0) (.slice none 0 0)
  rw [hW]
  have hbW := hwt.below (by have := HZ.out.lt; omega)
  clear hW
  refine bodyPost_ret (results_row_tmp rfl _ _ w.heap.size _ _ _ _ _ _ _ _ (.bool false) rfl rfl hwh) rfl ?_
  exact ⟨none, 0, 0, none, 0, 0, rfl, RcOwn.nil _ _ _ _ _ _ _, Below.trans HG.out hbW⟩

theorem call_gotPiece (a : Array Value) (w : World) : (callFunc 70 a).run Try.prog w = .ok (.enter 70 a) w := by kernel_rfl
theorem call_gotRoot (a : Array Value) (w : World) : (callFunc 73 a).run Try.prog w = .ok (.enter 73 a) w := by kernel_rfl
theorem call_gotInline (a : Array Value) (w : World) : (callFunc 76 a).run Try.prog w = .ok (.enter 76 a) w := by kernel_rfl
theorem call_gotTomb (a : Array Value) (w : World) : (callFunc 79 a).run Try.prog w = .ok (.enter 79 a) w := by kernel_rfl
theorem some_is (c : UInt8) : (1 ≤ c.toNat ∧ c.toNat ≤ 4) ↔ ((c.toNat : Int) = 1 ∨ (c.toNat : Int) = 2 ∨ (c.toNat : Int) = 3 ∨ (c.toNat : Int) = 4) := by omega
theorem getR_cons (c : UInt8) (bs : List UInt8) : getR (c :: bs) = if 1 ≤ c.toNat ∧ c.toNat ≤ 4 then (if ((partS c.toNat (bs, false)).2.2 = false ∧ (partS c.toNat (bs, false)).2.1 = []) ∧ RightR { (partS c.toNat (bs, false)).1 with kind := c.toNat } then some { (partS c.toNat (bs, false)).1 with kind := c.toNat } else Option.none) else Option.none := rfl
theorem got_some (c : UInt8) (bs : List UInt8) (h : 1 ≤ c.toNat ∧ c.toNat ≤ 4) (q : Bool) (hq : q = decide (RightR { (partS c.toNat (bs, false)).1 with kind := c.toNat })) :
    (getR (c :: bs)).isSome = (decide ((partS c.toNat (bs, false)).2.2 = false ∧ (partS c.toNat (bs, false)).2.1 = []) && q) ∧
    (getR (c :: bs)).getD Rc.none = if (decide ((partS c.toNat (bs, false)).2.2 = false ∧ (partS c.toNat (bs, false)).2.1 = []) && q) then { (partS c.toNat (bs, false)).1 with kind := (c.toNat : Int) } else Rc.none := by
  subst hq
  rw [getR_cons, if_pos h]
  by_cases h1 : (partS c.toNat (bs, false)).2.2 = false ∧ (partS c.toNat (bs, false)).2.1 = []
  · by_cases h2 : RightR { (partS c.toNat (bs, false)).1 with kind := c.toNat }
    · rw [if_pos ⟨h1, h2⟩, decide_eq_true h1, decide_eq_true h2]
      exact ⟨rfl, rfl⟩
    · rw [if_neg (fun h => h2 h.2), decide_eq_true h1, decide_eq_false h2]
      exact ⟨rfl, rfl⟩
  · rw [if_neg (fun h => h1 h.1), decide_eq_false h1]
    exact ⟨rfl, rfl⟩

theorem get_any (A : Option Addr) (n c : Nat) (bs : List UInt8) (w : World) (hs : Sl w A n c bs) (hn : n ≤ 140737488351232) :
    Calls Try.prog 14 #[.slice A n c] w fun e w' => ∃ LA ln lc BA bn bc, e = .returned (.tuple #[.agg #[.int .i64 ((getR bs).getD Rc.none).kind, .string ⟨((getR bs).getD Rc.none).key.toArray⟩, .int .i64 ((getR bs).getD Rc.none).id, .int .i64 ((getR bs).getD Rc.none).no, .int .i64 ((getR bs).getD Rc.none).size, .slice LA ln lc, .slice BA bn bc], .bool (getR bs).isSome]) ∧ RcOwn w' w.heap.size LA ln lc BA bn bc ((getR bs).getD Rc.none) ∧ Below w.heap.size w w' := by
  have hlen := hs.len
  match bs, hlen with
  | [], hlen =>
    obtain rfl : n = 0 := by simpa using hlen.symm
    exact get_empty A c w
  | b0 :: bs, hlen =>
    simp only [List.length_cons] at hlen
    obtain ⟨ad, rfl, _, _⟩ := hs.bytes.spot (k := 0) (by omega)
    by_cases hk : 1 ≤ b0.toNat ∧ b0.toNat ≤ 4
    · have hk' := (some_is b0).1 hk
      have hsl : bs.length ≤ 140737488351232 := by omega
      by_cases h1 : (b0.toNat : Int) = 1
      · have hp : partS (b0.toNat : Int) (bs, false) = pieceS (bs, false) := by unfold partS; rw [if_pos h1]
        obtain ⟨g1, g2⟩ := got_some b0 bs hk (decide (PieceOk { (pieceS (bs, false)).1 with kind := (b0.toNat : Int) })) (by rw [hp]; exact decide_eq_decide.2 (right_Piece (r := { (pieceS (bs, false)).1 with kind := (b0.toNat : Int) }) h1).symm)
        rw [hp] at g1 g2
        rw [← g1] at g2
        exact get_of ad n c b0 bs w hs hn _ _ _ (by rw [h1]; rfl) (by rw [h1]; rfl) call_rightPiece call_gotPiece (pieceS (bs, false)) _ _ _ (fun W g h => piece_any g (bs, false) W h hsl)
          (fun W LA ln lc BA bn bc hin => is_Piece { (pieceS (bs, false)).1 with kind := (b0.toNat : Int) } LA ln lc BA bn bc W ⟨hin.locs, hin.sl⟩ W (Grows.refl W)) g1.symm g2
      by_cases h2 : (b0.toNat : Int) = 2
      · have hp : partS (b0.toNat : Int) (bs, false) = rootS (bs, false) := by unfold partS; rw [if_neg (by omega), if_pos h2]
        obtain ⟨g1, g2⟩ := got_some b0 bs hk (decide (RootOk { (rootS (bs, false)).1 with kind := (b0.toNat : Int) })) (by rw [hp]; exact decide_eq_decide.2 (right_Root (r := { (rootS (bs, false)).1 with kind := (b0.toNat : Int) }) h2).symm)
        rw [hp] at g1 g2
        rw [← g1] at g2
        exact get_of ad n c b0 bs w hs hn _ _ _ (by rw [h2]; rfl) (by rw [h2]; rfl) call_rightRoot call_gotRoot (rootS (bs, false)) _ _ _ (fun W g h => root_any g (bs, false) W h hsl)
          (fun W LA ln lc BA bn bc hin => is_Root { (rootS (bs, false)).1 with kind := (b0.toNat : Int) } LA ln lc BA bn bc W ⟨hin.locs, hin.sl⟩ W (Grows.refl W)) g1.symm g2
      by_cases h3 : (b0.toNat : Int) = 3
      · have hp : partS (b0.toNat : Int) (bs, false) = inlineS (bs, false) := by unfold partS; rw [if_neg (by omega), if_neg (by omega), if_pos h3]
        obtain ⟨g1, g2⟩ := got_some b0 bs hk (decide (InlineOk { (inlineS (bs, false)).1 with kind := (b0.toNat : Int) })) (by rw [hp]; exact decide_eq_decide.2 (right_Inline (r := { (inlineS (bs, false)).1 with kind := (b0.toNat : Int) }) h3).symm)
        rw [hp] at g1 g2
        rw [← g1] at g2
        exact get_of ad n c b0 bs w hs hn _ _ _ (by rw [h3]; rfl) (by rw [h3]; rfl) call_rightInline call_gotInline (inlineS (bs, false)) _ _ _ (fun W g h => inline_any g (bs, false) W h hsl)
          (fun W LA ln lc BA bn bc hin => is_Inline { (inlineS (bs, false)).1 with kind := (b0.toNat : Int) } LA ln lc BA bn bc W ⟨hin.locs, hin.sl⟩ W (Grows.refl W)) g1.symm g2
      by_cases h4 : (b0.toNat : Int) = 4
      · have hp : partS (b0.toNat : Int) (bs, false) = tombS (bs, false) := by unfold partS; rw [if_neg (by omega), if_neg (by omega), if_neg (by omega)]
        obtain ⟨g1, g2⟩ := got_some b0 bs hk (decide (TombOk { (tombS (bs, false)).1 with kind := (b0.toNat : Int) })) (by rw [hp]; exact decide_eq_decide.2 (right_Tomb (r := { (tombS (bs, false)).1 with kind := (b0.toNat : Int) }) h4).symm)
        rw [hp] at g1 g2
        rw [← g1] at g2
        exact get_of ad n c b0 bs w hs hn _ _ _ (by rw [h4]; rfl) (by rw [h4]; rfl) call_rightTomb call_gotTomb (tombS (bs, false)) _ _ _ (fun W g h => tomb_any g (bs, false) W h hsl)
          (fun W LA ln lc BA bn bc hin => is_Tomb { (tombS (bs, false)).1 with kind := (b0.toNat : Int) } LA ln lc BA bn bc W ⟨hin.locs, hin.sl⟩ W (Grows.refl W)) g1.symm g2
      omega
    · have hk' : ¬ ((b0.toNat : Int) = 1 ∨ (b0.toNat : Int) = 2 ∨ (b0.toNat : Int) = 3 ∨ (b0.toNat : Int) = 4) := fun h => hk ((some_is b0).2 h)
      have hg : getR (b0 :: bs) = Option.none := by
        rw [getR_cons, if_neg hk]
      rw [hg]
      exact get_else ad n c b0 bs w hs hn (by unfold wayOf; rw [if_neg (by omega), if_neg (by omega), if_neg (by omega), if_neg (by omega)]) (decide_eq_false hk')
end Go.Proofs.Ytmfhpfehphbklaa
