/-
  law13's live question.
-/
import Derived.Test.YtadgbobemmfjoaaKsIn
namespace Go.Proofs.Ytadgbobemmfjoaa
open Go.RowKit
set_option linter.unusedVariables false
set_option linter.unusedSimpArgs false
attribute [local irreducible] wpF

theorem lit_row {w : World} {g t : Nat} (ks : Ks) {cs : Array Value} (h : Whole w g t cs) (he : cs = (ks.map kS).toArray) {n : Nat} (hn : ks.length = n) : Row w w.heap.size (some ⟨g, 0, none⟩) n (ks.map kS) :=
  ⟨by rw [List.length_map]; exact hn, fun k v hv => ⟨⟨g, 0, none⟩, rfl, h.lt, by
    rw [show (⟨g, 0, none⟩ : Addr).add k = ⟨g, k, none⟩ by unfold Addr.add; split <;> simp_all, h.cell k, he]
    simpa using hv⟩⟩
theorem put_b1 : kputL (plc [98] 1) [] = [plc [98] 1] := rfl
theorem put_a2 : kputL (plc [97] 2) [plc [98] 1] = [plc [97] 2, plc [98] 1] := rfl
theorem put_b3 : kputL (plc [98] 3) [plc [97] 2, plc [98] 1] = [plc [97] 2, plc [98] 3] := rfl
theorem del_a : delL [97] [plc [97] 2, plc [98] 3] = [plc [98] 3] := rfl
theorem del_a2 : delL [97] [plc [98] 3] = [plc [98] 3] := rfl
theorem from_aa : fromP [97, 97] (5 : Int).toNat [plc [97] 2, plc [98] 3] = [[98]] := rfl
set_option maxRecDepth 100000 in
set_option maxHeartbeats 4000000 in
theorem head13_any (w : World) : Calls Try.prog 9 #[] w fun e w' => e = .returned (.bool true) ∧ Grows w w' := by
  obtain ⟨z0, hz0⟩ : ∃ z : Int, 0 = z := ⟨0, rfl⟩
  have HZ0 := Lib.hid hz0
  clear hz0
  go_enter Try.func9, Try.ntmps9
  go_wp2_with (fail)
  refine (new_in (B := w.heap.size) (out := fun _ => False) (Below.refl _ w) (Nat.le_refl _) (fun k hk => hk.elim)).mono ?_
  rintro e w1 ⟨d, rfl, hk1, hg1⟩
  have H1 := Lib.hid hk1
  clear hk1 hg1
  go_wp2_with (fail)
  refine (place_any [98] 1 w1).mono ?_
  rintro e w2 ⟨rfl, hg2⟩
  have HP := Lib.hid (show Calls Try.prog 20 #[.pointer (some ⟨d, 0, none⟩), .agg #[.int .i64 1, .int .i64 3, .string ⟨#[98]⟩, .int .i64 13, .int .i64 20]] w2 fun e w' => e = .returned (.tuple #[.agg #[.int .i64 0, .int .i64 0, .string ⟨#[]⟩, .int .i64 0, .int .i64 z0], .bool false]) ∧ KsIn w.heap.size w w' d (fun _ => False) [plc [98] 1] ∧ KStays w.heap.size (fun _ => False) w2 w' from by have hz := HZ0.out; subst hz; exact put_at (plc [98] 1) (H1.out.grow hg2) (by show 1 ≤ _; omega) (by show 0 < _; omega) rfl put_b1)
  clear hg2
  unfold plV plc
  dsimp only
  go_wp2_with (fail)
  refine HP.out.mono ?_
  rintro e w3 ⟨rfl, hk3, _⟩
  have H3 := Lib.hid (hk3.grow (grows_alloc w3 (.cells #[.int .i64 0, .int .i64 0, .string ⟨#[]⟩, .int .i64 0, .int .i64 z0] 32)))
  obtain ⟨V3, hV3⟩ : ∃ V, w3.alloc (.cells #[.int .i64 0, .int .i64 0, .string ⟨#[]⟩, .int .i64 0, .int .i64 z0] 32) = V := ⟨_, rfl⟩
  rw [hV3] at H3
  clear hk3 HP
  go_wp2_with (first | rw [hV3] | fail)
  clear hV3
  refine (place_any [97] 2 V3).mono ?_
  rintro e w4 ⟨rfl, hg4⟩
  have HP := Lib.hid (show Calls Try.prog 20 #[.pointer (some ⟨d, 0, none⟩), .agg #[.int .i64 2, .int .i64 3, .string ⟨#[97]⟩, .int .i64 13, .int .i64 20]] w4 fun e w' => e = .returned (.tuple #[.agg #[.int .i64 0, .int .i64 0, .string ⟨#[]⟩, .int .i64 0, .int .i64 z0], .bool false]) ∧ KsIn w.heap.size w w' d (fun _ => False) [plc [97] 2, plc [98] 1] ∧ KStays w.heap.size (fun _ => False) w4 w' from by have hz := HZ0.out; subst hz; exact put_at (plc [97] 2) (H3.out.grow hg4) (by show 1 ≤ _; omega) (by show 1 < _; omega) rfl put_a2)
  clear hg4
  unfold plV plc
  dsimp only
  go_wp2_with (fail)
  refine HP.out.mono ?_
  rintro e w5 ⟨rfl, hk5, _⟩
  have H5 := Lib.hid (hk5.grow (grows_alloc w5 (.cells #[.int .i64 0, .int .i64 0, .string ⟨#[]⟩, .int .i64 0, .int .i64 z0] 32)))
  obtain ⟨V5, hV5⟩ : ∃ V, w5.alloc (.cells #[.int .i64 0, .int .i64 0, .string ⟨#[]⟩, .int .i64 0, .int .i64 z0] 32) = V := ⟨_, rfl⟩
  rw [hV5] at H5
  clear hk5 HP
  go_wp2_with (first | rw [hV5] | fail)
  clear hV5
  refine (place_any [98] 3 V5).mono ?_
  rintro e w6 ⟨rfl, hg6⟩
  have HP := Lib.hid (show Calls Try.prog 20 #[.pointer (some ⟨d, 0, none⟩), .agg #[.int .i64 3, .int .i64 3, .string ⟨#[98]⟩, .int .i64 13, .int .i64 20]] w6 fun e w' => e = .returned (.tuple #[.agg #[.int .i64 1, .int .i64 3, .string ⟨#[98]⟩, .int .i64 13, .int .i64 20], .bool true]) ∧ KsIn w.heap.size w w' d (fun _ => False) [plc [97] 2, plc [98] 3] ∧ KStays w.heap.size (fun _ => False) w6 w' from put_at (plc [98] 3) (H5.out.grow hg6) (by show 1 ≤ _; omega) (by show 2 < _; omega) rfl put_b3)
  clear hg6
  unfold plV plc
  dsimp only
  go_wp2_with (fail)
  refine HP.out.mono ?_
  rintro e w7 ⟨rfl, hk7, _⟩
  have hm7 := Whole.made w7 32 #[.int .i64 1, .int .i64 3, .string ⟨#[98]⟩, .int .i64 13, .int .i64 20]
  have hg7 := grows_alloc w7 (.cells #[.int .i64 1, .int .i64 3, .string ⟨#[98]⟩, .int .i64 13, .int .i64 20] 32)
  obtain ⟨V7, hV7⟩ : ∃ V, w7.alloc (.cells #[.int .i64 1, .int .i64 3, .string ⟨#[98]⟩, .int .i64 13, .int .i64 20] 32) = V := ⟨_, rfl⟩
  rw [hV7] at hm7 hg7
  obtain ⟨cb, hcb⟩ : ∃ cb, w7.heap.size = cb := ⟨_, rfl⟩
  rw [hcb] at hm7
  have HLI := Lib.hid (list_at (hk7.grow hg7) (by show 2 < _; omega) (l := [[97], [98]]) rfl)
  have VSZ := Lib.hid (show V7.heap.size = w7.heap.size + 1 from by rw [← hV7, World.size_alloc])
  have H7 := Lib.hid (And.intro hk7 (And.intro hg7 (And.intro hm7 hcb)))
  clear hk7 hg7 hm7 HP
  go_wp2_with (first | rw [hV7] | fail)
  clear hV7
  refine HLI.out.mono ?_
  rintro e w8 ⟨A1, n1, c1, rfl, ho8, hg8⟩
  obtain rfl : n1 = 2 := (OwnS.len ho8).symm
  have HFR := Lib.hid (from_at [97, 97] 5 ((H7.out.1.grow H7.out.2.1).grow hg8) (by omega) (by show 2 < _; omega) from_aa)
  have H8 := Lib.hid (And.intro ho8 hg8)
  clear ho8 hg8 hcb HLI
  go_wp2_with (fail)
  refine HFR.out.mono ?_
  rintro e w9 ⟨A2, n2, c2, rfl, ho9, hg9⟩
  obtain rfl : n2 = 1 := (OwnS.len ho9).symm
  have hgw := Grows.trans H7.out.2.1 (Grows.trans H8.out.2 hg9)
  have hk9 := H7.out.1.more hgw
  have HDE := Lib.hid (show Calls Try.prog 13 #[.pointer (some ⟨d, 0, none⟩), .string ⟨#[97]⟩] w9 fun e w' => e = .returned (.tuple #[.agg #[.int .i64 2, .int .i64 3, .string ⟨#[97]⟩, .int .i64 13, .int .i64 20], .bool true]) ∧ KsIn w.heap.size w w' d (fun k => False ∨ (w7.heap.size ≤ k ∧ k < w9.heap.size)) [plc [98] 3] ∧ KStays w.heap.size (fun k => False ∨ (w7.heap.size ≤ k ∧ k < w9.heap.size)) w9 w' from del_at [97] hk9 (by show 1 ≤ _; omega) (by show 2 < _; omega) rfl del_a)
  have H9 := Lib.hid (And.intro (owned_grow H8.out.1 hg9) (And.intro ho9 (And.intro (hg9.whole (H8.out.2.whole H7.out.2.2.1)) (And.intro hgw (show V7.heap.size = w7.heap.size + 1 ∧ V7.heap.size ≤ w8.heap.size ∧ w8.heap.size ≤ w9.heap.size ∧ cb = w7.heap.size from ⟨VSZ.out, H8.out.2.size, hg9.size, H7.out.2.2.2.symm⟩)))))
  clear ho9 hg9 hgw hk9 HFR
  go_wp2_with (fail)
  refine HDE.out.mono ?_
  rintro e w10 ⟨rfl, hk10, hs10⟩
  have hkeep : ∀ k, w7.heap.size ≤ k → k < w9.heap.size → w10.heap[k]? = w9.heap[k]? := fun k h1 h2 => hs10.keep h2 (.inr (.inr ⟨h1, h2⟩))
  have hm10 := Whole.made w10 32 #[.int .i64 2, .int .i64 3, .string ⟨#[97]⟩, .int .i64 13, .int .i64 20]
  have hg10 := grows_alloc w10 (.cells #[.int .i64 2, .int .i64 3, .string ⟨#[97]⟩, .int .i64 13, .int .i64 20] 32)
  obtain ⟨V10, hV10⟩ : ∃ V, w10.alloc (.cells #[.int .i64 2, .int .i64 3, .string ⟨#[97]⟩, .int .i64 13, .int .i64 20] 32) = V := ⟨_, rfl⟩
  rw [hV10] at hm10 hg10
  have hz10 : V10.heap.size = w10.heap.size + 1 := by rw [← hV10, World.size_alloc]
  obtain ⟨gb, hgb⟩ : ∃ gb, w10.heap.size = gb := ⟨_, rfl⟩
  rw [hgb] at hm10
  obtain ⟨o1, o2, o3, _, o5⟩ := H9.out
  have hl1 : OwnS V10 V7.heap.size A1 2 c1 [[97], [98]] := owned_grow (owned_same3 o1 fun k hk => hkeep k (by have := (owned_lt3 o1 hk).1; omega) (owned_lt3 o1 hk).2) hg10
  have hl2 : OwnS V10 w8.heap.size A2 1 c2 [[98]] := owned_grow (owned_same3 o2 fun k hk => hkeep k (by have := (owned_lt3 o2 hk).1; omega) (owned_lt3 o2 hk).2) hg10
  have hc10 : Whole V10 cb 32 #[.int .i64 1, .int .i64 3, .string ⟨#[98]⟩, .int .i64 13, .int .i64 20] := hg10.whole ((hkeep cb (by omega) o3.lt).trans o3)
  have hk10' := hk10.more hg10
  have HDE2 := Lib.hid (show Calls Try.prog 13 #[.pointer (some ⟨d, 0, none⟩), .string ⟨#[97]⟩] V10 fun e w' => e = .returned (.tuple #[.agg #[.int .i64 0, .int .i64 0, .string ⟨#[]⟩, .int .i64 0, .int .i64 z0], .bool false]) ∧ KsIn w.heap.size w w' d (fun k => (False ∨ (w7.heap.size ≤ k ∧ k < w9.heap.size)) ∨ (w10.heap.size ≤ k ∧ k < V10.heap.size)) [plc [98] 3] ∧ KStays w.heap.size (fun k => (False ∨ (w7.heap.size ≤ k ∧ k < w9.heap.size)) ∨ (w10.heap.size ≤ k ∧ k < V10.heap.size)) V10 w' from by have hz := HZ0.out; subst hz; exact del_at [97] hk10' (by show 1 ≤ _; omega) (by show 1 < _; omega) rfl del_a2)
  have H10 := Lib.hid (And.intro hl1 (And.intro hl2 (And.intro hc10 (And.intro hm10 (show V10.heap.size = w10.heap.size + 1 ∧ gb = w10.heap.size ∧ (∀ k, V7.heap.size ≤ k → k < V10.heap.size → True) from ⟨hz10, hgb.symm, fun _ _ _ => trivial⟩)))))
  have HOWB := Lib.hid (show (∀ k, (Value.slice A1 2 c1).ownBlock = some k → w7.heap.size ≤ k ∧ k < w9.heap.size) ∧ (∀ k, (Value.slice A2 1 c2).ownBlock = some k → w7.heap.size ≤ k ∧ k < w9.heap.size) ∧ w7.heap.size ≤ cb ∧ cb < w9.heap.size from ⟨fun k hk => ⟨by have := (owned_lt3 o1 hk).1; omega, (owned_lt3 o1 hk).2⟩, fun k hk => ⟨by have := (owned_lt3 o2 hk).1; omega, (owned_lt3 o2 hk).2⟩, by omega, o3.lt⟩)
  clear hk10 hs10 hkeep hm10 hg10 o1 o2 o3 o5 hl1 hl2 hc10 hk10' HDE hz10
  go_wp2_with (first | rw [hV10] | fail)
  clear hV10 hgb
  refine HDE2.out.mono ?_
  rintro e w11 ⟨rfl, hk11, hs11⟩
  have hkeep : ∀ k, ((w7.heap.size ≤ k ∧ k < w9.heap.size) ∨ w10.heap.size ≤ k) → k < V10.heap.size → w11.heap[k]? = V10.heap[k]? := fun k h1 h2 => hs11.keep h2 (.inr (h1.elim (fun h => .inl (.inr h)) fun h => .inr ⟨h, h2⟩))
  obtain ⟨o1, o2, o3, o4, o5⟩ := H10.out
  obtain ⟨b1, b2, b3, b4⟩ := HOWB.out
  have hl1 : OwnS w11 V7.heap.size A1 2 c1 [[97], [98]] := owned_same3 o1 fun k hk => hkeep k (.inl (b1 k hk)) (owned_lt3 o1 hk).2
  have hl2 : OwnS w11 w8.heap.size A2 1 c2 [[98]] := owned_same3 o2 fun k hk => hkeep k (.inl (b2 k hk)) (owned_lt3 o2 hk).2
  have hc11 : Whole w11 cb 32 #[.int .i64 1, .int .i64 3, .string ⟨#[98]⟩, .int .i64 13, .int .i64 20] := (hkeep cb (.inl ⟨b3, b4⟩) o3.lt).trans o3
  have hm11 : Whole w11 gb 32 #[.int .i64 2, .int .i64 3, .string ⟨#[97]⟩, .int .i64 13, .int .i64 20] := (hkeep gb (.inr (by omega)) o4.lt).trans o4
  have hg11 := grows_alloc w11 (.cells #[.int .i64 0, .int .i64 0, .string ⟨#[]⟩, .int .i64 0, .int .i64 z0] 32)
  obtain ⟨V11, hV11⟩ : ∃ V, w11.alloc (.cells #[.int .i64 0, .int .i64 0, .string ⟨#[]⟩, .int .i64 0, .int .i64 z0] 32) = V := ⟨_, rfl⟩
  rw [hV11] at hg11
  have HGE := Lib.hid (show Calls Try.prog 15 #[.pointer (some ⟨d, 0, none⟩), .string ⟨#[98]⟩] V11 fun e w' => e = .returned (.tuple #[.agg #[.int .i64 3, .int .i64 3, .string ⟨#[98]⟩, .int .i64 13, .int .i64 20], .bool true]) ∧ Grows V11 w' from get_at [98] (hk11.grow hg11) (by show 1 ≤ _; omega) (by show 1 < _; omega) rfl)
  have H11 := Lib.hid (And.intro (owned_grow hl1 hg11) (And.intro (owned_grow hl2 hg11) (And.intro (hg11.whole hc11) (And.intro (hg11.whole hm11) (hk11.grow hg11)))))
  clear hk11 hs11 hkeep o1 o2 o3 o4 o5 b1 b2 b3 b4 hl1 hl2 hc11 hm11 hg11 HDE2
  go_wp2_with (first | rw [hV11] | fail)
  clear hV11
  refine HGE.out.mono ?_
  rintro e w12 ⟨rfl, hg12⟩
  have hm12 := Whole.made w12 32 #[.int .i64 3, .int .i64 3, .string ⟨#[98]⟩, .int .i64 13, .int .i64 20]
  have hg13 := grows_alloc w12 (.cells #[.int .i64 3, .int .i64 3, .string ⟨#[98]⟩, .int .i64 13, .int .i64 20] 32)
  obtain ⟨V12, hV12⟩ : ∃ V, w12.alloc (.cells #[.int .i64 3, .int .i64 3, .string ⟨#[98]⟩, .int .i64 13, .int .i64 20] 32) = V := ⟨_, rfl⟩
  rw [hV12] at hm12 hg13
  obtain ⟨jb, hjb⟩ : ∃ jb, w12.heap.size = jb := ⟨_, rfl⟩
  rw [hjb] at hm12
  have hgg := Grows.trans hg12 hg13
  obtain ⟨o1, o2, o3, o4, o5⟩ := H11.out
  have HB := Lib.hid (show ∀ w', Grows V12 w' → Whole w' cb 32 #[.int .i64 1, .int .i64 3, .string ⟨#[98]⟩, .int .i64 13, .int .i64 20] ∧ Whole w' gb 32 #[.int .i64 2, .int .i64 3, .string ⟨#[97]⟩, .int .i64 13, .int .i64 20] ∧ Whole w' jb 32 #[.int .i64 3, .int .i64 3, .string ⟨#[98]⟩, .int .i64 13, .int .i64 20] from fun w' hg => ⟨hg.whole (hgg.whole o3), hg.whole (hgg.whole o4), hg.whole hm12⟩)
  have HK := Lib.hid (o5.grow hgg)
  have HMA := Lib.hid (show ∀ w', Grows V12 w' → Calls Try.prog 22 #[.pointer (some ⟨d, 0, none⟩)] w' fun e w'' => e = .returned (.int .i64 1) ∧ Grows w' w'' from fun w' hg => (many_at (HK.out.grow hg) (by show 1 < _; omega) (n := 1) rfl).mono fun e w'' ⟨h1, h2⟩ => ⟨h1, h2 ▸ Grows.refl _⟩)
  have HS1 := Lib.hid (show ∀ w', Grows V12 w' → ∀ g, Whole w' g 9 #[.string ⟨#[97]⟩, .string ⟨#[98]⟩] → Calls Try.prog 17 #[.slice A1 2 c1, .slice (some ⟨g, 0, none⟩) 2 2] w' fun e w'' => e = .returned (.bool true) ∧ Grows w' w'' from fun w' hg g hw => ksame_names A1 2 c1 (some ⟨g, 0, none⟩) 2 2 [[97], [98]] [[97], [98]] w' (Row.owned (owned_grow (owned_grow o1 hgg) hg)) (lit_row [[97], [98]] hw rfl rfl) (by omega))
  have HS2 := Lib.hid (show ∀ w', Grows V12 w' → ∀ g, Whole w' g 9 #[.string ⟨#[98]⟩] → Calls Try.prog 17 #[.slice A2 1 c2, .slice (some ⟨g, 0, none⟩) 1 1] w' fun e w'' => e = .returned (.bool true) ∧ Grows w' w'' from fun w' hg g hw => ksame_names A2 1 c2 (some ⟨g, 0, none⟩) 1 1 [[98]] [[98]] w' (Row.owned (owned_grow (owned_grow o2 hgg) hg)) (lit_row [[98]] hw rfl rfl) (by omega))
  have HQ1 := Lib.hid (show ∀ w', (Op.equalIn 10000 32 (.agg #[.int .i64 1, .int .i64 3, .string ⟨#[98]⟩, .int .i64 13, .int .i64 20]) (.agg #[.int .i64 1, .int .i64 3, .string ⟨#[98]⟩, .int .i64 13, .int .i64 20])).run Try.prog w' = .ok true w' from fun w' => eq_pl (plc [98] 1) (plc [98] 1) w')
  have HQ2 := Lib.hid (show ∀ w', (Op.equalIn 10000 32 (.agg #[.int .i64 2, .int .i64 3, .string ⟨#[97]⟩, .int .i64 13, .int .i64 20]) (.agg #[.int .i64 2, .int .i64 3, .string ⟨#[97]⟩, .int .i64 13, .int .i64 20])).run Try.prog w' = .ok true w' from fun w' => eq_pl (plc [97] 2) (plc [97] 2) w')
  have HQ3 := Lib.hid (show ∀ w', (Op.equalIn 10000 32 (.agg #[.int .i64 3, .int .i64 3, .string ⟨#[98]⟩, .int .i64 13, .int .i64 20]) (.agg #[.int .i64 3, .int .i64 3, .string ⟨#[98]⟩, .int .i64 13, .int .i64 20])).run Try.prog w' = .ok true w' from fun w' => eq_pl (plc [98] 3) (plc [98] 3) w')
  clear o1 o2 o3 o4 o5 hgg hg12 hg13 hm12 HGE
  go_wp2_with (first | rw [hV12] | fail)
  clear hV12 hjb
  refine wp_region_facts (E := Grows) [valFact (.bool false), valFact (.bool true), valFact (.bool true), valFact (.bool false), valFact (.bool true), valFact (.bool true), valFact (.bool true), valFact (.agg #[.int .i64 1, .int .i64 3, .string ⟨#[98]⟩, .int .i64 13, .int .i64 20]), valFact (.agg #[.int .i64 1, .int .i64 3, .string ⟨#[98]⟩, .int .i64 13, .int .i64 20]), valFact (.bool true), valFact (.bool true), valFact (.bool true), valFact (.bool true), valFact (.bool true), valFact (.bool true), valFact (.slice A1 2 c1), blkFact (9) (#[.string ⟨#[97]⟩, .string ⟨#[98]⟩]) 2, valFact (.bool true), valFact (.bool true), valFact (.bool true), valFact (.slice A2 1 c2), blkFact (9) (#[.string ⟨#[98]⟩]) 1, valFact (.bool true), valFact (.bool true), valFact (.bool true), valFact (.agg #[.int .i64 2, .int .i64 3, .string ⟨#[97]⟩, .int .i64 13, .int .i64 20]), valFact (.agg #[.int .i64 2, .int .i64 3, .string ⟨#[97]⟩, .int .i64 13, .int .i64 20]), valFact (.bool true), valFact (.bool true), valFact (.bool true), valFact (.bool true), valFact (.bool true), valFact (.bool true), valFact (.bool false), valFact (.bool true), valFact (.bool true), valFact (.bool true), valFact (.agg #[.int .i64 3, .int .i64 3, .string ⟨#[98]⟩, .int .i64 13, .int .i64 20]), valFact (.agg #[.int .i64 3, .int .i64 3, .string ⟨#[98]⟩, .int .i64 13, .int .i64 20]), valFact (.bool true), valFact (.bool true), valFact (.bool true), valFact (.bool true), valFact (.bool true), valFact (.bool true), valFact (.pointer (some ⟨d, 0, none⟩)), valFact (.int .i64 1), valFact (.bool true), valFact (.bool true), valFact (.bool true), valFact (.pointer (some ⟨d, 0, none⟩)), valFact (.slice none 0 0), valFact (.int .i64 0), valFact (.bool true), valFact (.bool true), valFact (.bool true)] (by kernel_rfl) (by kernel_rfl) (fun _ _ _ => Grows.trans) (grows_drew _) ?_
  refine f_val (.bool false) (by rfl) ?_ ?_
  · intro w' hC; clear hC; go_simp
  simp only [Act.put, List.setIfInBounds_toArray, List.set_cons_zero, List.set_cons_succ]
  refine f_val (.bool true) (by rfl) ?_ ?_
  · intro w' hC; clear hC; go_simp
  simp only [Act.put, List.setIfInBounds_toArray, List.set_cons_zero, List.set_cons_succ]
  refine f_val (.bool true) (by rfl) ?_ ?_
  · intro w' hC; clear hC; go_simp
  simp only [Act.put, List.setIfInBounds_toArray, List.set_cons_zero, List.set_cons_succ]
  refine f_val (.bool false) (by rfl) ?_ ?_
  · intro w' hC; clear hC; go_simp
  simp only [Act.put, List.setIfInBounds_toArray, List.set_cons_zero, List.set_cons_succ]
  refine f_val (.bool true) (by rfl) ?_ ?_
  · intro w' hC; clear hC; go_simp
  simp only [Act.put, List.setIfInBounds_toArray, List.set_cons_zero, List.set_cons_succ]
  refine f_val (.bool true) (by rfl) ?_ ?_
  · intro w' hC; clear hC; go_simp
  simp only [Act.put, List.setIfInBounds_toArray, List.set_cons_zero, List.set_cons_succ]
  refine f_val (.bool true) (by rfl) ?_ ?_
  · intro w' hC; clear hC; go_simp
  simp only [Act.put, List.setIfInBounds_toArray, List.set_cons_zero, List.set_cons_succ]
  refine f_val (.agg #[.int .i64 1, .int .i64 3, .string ⟨#[98]⟩, .int .i64 13, .int .i64 20]) (by rfl) ?_ ?_
  · intro w' hC; obtain ⟨q, _, _⟩ := HB.out w' hC; have q0 := q.cell 0; have q1 := q.cell 1; have q2 := q.cell 2; have q3 := q.cell 3; have q4 := q.cell 4; simp only [List.getElem?_toArray, List.getElem?_cons_zero, List.getElem?_cons_succ] at q0 q1 q2 q3 q4; clear q; clear hC; go_simp
  simp only [Act.put, List.setIfInBounds_toArray, List.set_cons_zero, List.set_cons_succ]
  refine f_call 26 #[.string ⟨#[98]⟩, .int .i64 1] (.agg #[.int .i64 1, .int .i64 3, .string ⟨#[98]⟩, .int .i64 13, .int .i64 20]) (by rfl) (by intro w' hC; clear hC; go_simp) ?_ ?_
  · intro w' hC _; exact place_any [98] 1 w'
  simp only [Act.put, List.setIfInBounds_toArray, List.set_cons_zero, List.set_cons_succ]
  refine f_val (.bool true) (by rfl) ?_ ?_
  · intro w' hC; have z := HQ1.out w'; clear hC; go_simp
  simp only [Act.put, List.setIfInBounds_toArray, List.set_cons_zero, List.set_cons_succ]
  refine f_val (.bool true) (by rfl) ?_ ?_
  · intro w' hC; clear hC; go_simp
  simp only [Act.put, List.setIfInBounds_toArray, List.set_cons_zero, List.set_cons_succ]
  refine f_val (.bool true) (by rfl) ?_ ?_
  · intro w' hC; clear hC; go_simp
  simp only [Act.put, List.setIfInBounds_toArray, List.set_cons_zero, List.set_cons_succ]
  refine f_val (.bool true) (by rfl) ?_ ?_
  · intro w' hC; clear hC; go_simp
  simp only [Act.put, List.setIfInBounds_toArray, List.set_cons_zero, List.set_cons_succ]
  refine f_val (.bool true) (by rfl) ?_ ?_
  · intro w' hC; clear hC; go_simp
  simp only [Act.put, List.setIfInBounds_toArray, List.set_cons_zero, List.set_cons_succ]
  refine f_val (.bool true) (by rfl) ?_ ?_
  · intro w' hC; clear hC; go_simp
  simp only [Act.put, List.setIfInBounds_toArray, List.set_cons_zero, List.set_cons_succ]
  refine f_val (.slice A1 2 c1) (by rfl) ?_ ?_
  · intro w' hC; clear hC; go_simp
  simp only [Act.put, List.setIfInBounds_toArray, List.set_cons_zero, List.set_cons_succ]
  refine f_made (9) (#[.string ⟨#[97]⟩, .string ⟨#[98]⟩]) 2 (by rfl) ?_ ?_
  · intro w' hC; clear hC; go_simp
  intro g1
  simp only [Act.put, List.setIfInBounds_toArray, List.set_cons_zero, List.set_cons_succ]
  refine f_call 17 #[.slice A1 2 c1, .slice (some ⟨g1, 0, none⟩) 2 2] (.bool true) (by rfl) (by intro w' hC; clear hC; go_simp) ?_ ?_
  · intro w' hC hks; exact HS1.out w' hC g1 (Known.get hks 0 rfl rfl)
  simp only [Act.put, List.setIfInBounds_toArray, List.set_cons_zero, List.set_cons_succ]
  refine f_val (.bool true) (by rfl) ?_ ?_
  · intro w' hC; clear hC; go_simp
  simp only [Act.put, List.setIfInBounds_toArray, List.set_cons_zero, List.set_cons_succ]
  refine f_val (.bool true) (by rfl) ?_ ?_
  · intro w' hC; clear hC; go_simp
  simp only [Act.put, List.setIfInBounds_toArray, List.set_cons_zero, List.set_cons_succ]
  refine f_val (.slice A2 1 c2) (by rfl) ?_ ?_
  · intro w' hC; clear hC; go_simp
  simp only [Act.put, List.setIfInBounds_toArray, List.set_cons_zero, List.set_cons_succ]
  refine f_made (9) (#[.string ⟨#[98]⟩]) 1 (by rfl) ?_ ?_
  · intro w' hC; clear hC; go_simp
  intro g2
  simp only [Act.put, List.setIfInBounds_toArray, List.set_cons_zero, List.set_cons_succ]
  refine f_call 17 #[.slice A2 1 c2, .slice (some ⟨g2, 0, none⟩) 1 1] (.bool true) (by rfl) (by intro w' hC; clear hC; go_simp) ?_ ?_
  · intro w' hC hks; exact HS2.out w' hC g2 (Known.get hks 0 rfl rfl)
  simp only [Act.put, List.setIfInBounds_toArray, List.set_cons_zero, List.set_cons_succ]
  refine f_val (.bool true) (by rfl) ?_ ?_
  · intro w' hC; clear hC; go_simp
  simp only [Act.put, List.setIfInBounds_toArray, List.set_cons_zero, List.set_cons_succ]
  refine f_val (.bool true) (by rfl) ?_ ?_
  · intro w' hC; clear hC; go_simp
  simp only [Act.put, List.setIfInBounds_toArray, List.set_cons_zero, List.set_cons_succ]
  refine f_val (.agg #[.int .i64 2, .int .i64 3, .string ⟨#[97]⟩, .int .i64 13, .int .i64 20]) (by rfl) ?_ ?_
  · intro w' hC; obtain ⟨_, q, _⟩ := HB.out w' hC; have q0 := q.cell 0; have q1 := q.cell 1; have q2 := q.cell 2; have q3 := q.cell 3; have q4 := q.cell 4; simp only [List.getElem?_toArray, List.getElem?_cons_zero, List.getElem?_cons_succ] at q0 q1 q2 q3 q4; clear q; clear hC; go_simp
  simp only [Act.put, List.setIfInBounds_toArray, List.set_cons_zero, List.set_cons_succ]
  refine f_call 26 #[.string ⟨#[97]⟩, .int .i64 2] (.agg #[.int .i64 2, .int .i64 3, .string ⟨#[97]⟩, .int .i64 13, .int .i64 20]) (by rfl) (by intro w' hC; clear hC; go_simp) ?_ ?_
  · intro w' hC _; exact place_any [97] 2 w'
  simp only [Act.put, List.setIfInBounds_toArray, List.set_cons_zero, List.set_cons_succ]
  refine f_val (.bool true) (by rfl) ?_ ?_
  · intro w' hC; have z := HQ2.out w'; clear hC; go_simp
  simp only [Act.put, List.setIfInBounds_toArray, List.set_cons_zero, List.set_cons_succ]
  refine f_val (.bool true) (by rfl) ?_ ?_
  · intro w' hC; clear hC; go_simp
  simp only [Act.put, List.setIfInBounds_toArray, List.set_cons_zero, List.set_cons_succ]
  refine f_val (.bool true) (by rfl) ?_ ?_
  · intro w' hC; clear hC; go_simp
  simp only [Act.put, List.setIfInBounds_toArray, List.set_cons_zero, List.set_cons_succ]
  refine f_val (.bool true) (by rfl) ?_ ?_
  · intro w' hC; clear hC; go_simp
  simp only [Act.put, List.setIfInBounds_toArray, List.set_cons_zero, List.set_cons_succ]
  refine f_val (.bool true) (by rfl) ?_ ?_
  · intro w' hC; clear hC; go_simp
  simp only [Act.put, List.setIfInBounds_toArray, List.set_cons_zero, List.set_cons_succ]
  refine f_val (.bool true) (by rfl) ?_ ?_
  · intro w' hC; clear hC; go_simp
  simp only [Act.put, List.setIfInBounds_toArray, List.set_cons_zero, List.set_cons_succ]
  refine f_val (.bool false) (by rfl) ?_ ?_
  · intro w' hC; clear hC; go_simp
  simp only [Act.put, List.setIfInBounds_toArray, List.set_cons_zero, List.set_cons_succ]
  refine f_val (.bool true) (by rfl) ?_ ?_
  · intro w' hC; clear hC; go_simp
  simp only [Act.put, List.setIfInBounds_toArray, List.set_cons_zero, List.set_cons_succ]
  refine f_val (.bool true) (by rfl) ?_ ?_
  · intro w' hC; clear hC; go_simp
  simp only [Act.put, List.setIfInBounds_toArray, List.set_cons_zero, List.set_cons_succ]
  refine f_val (.bool true) (by rfl) ?_ ?_
  · intro w' hC; clear hC; go_simp
  simp only [Act.put, List.setIfInBounds_toArray, List.set_cons_zero, List.set_cons_succ]
  refine f_val (.agg #[.int .i64 3, .int .i64 3, .string ⟨#[98]⟩, .int .i64 13, .int .i64 20]) (by rfl) ?_ ?_
  · intro w' hC; obtain ⟨_, _, q⟩ := HB.out w' hC; have q0 := q.cell 0; have q1 := q.cell 1; have q2 := q.cell 2; have q3 := q.cell 3; have q4 := q.cell 4; simp only [List.getElem?_toArray, List.getElem?_cons_zero, List.getElem?_cons_succ] at q0 q1 q2 q3 q4; clear q; clear hC; go_simp
  simp only [Act.put, List.setIfInBounds_toArray, List.set_cons_zero, List.set_cons_succ]
  refine f_call 26 #[.string ⟨#[98]⟩, .int .i64 3] (.agg #[.int .i64 3, .int .i64 3, .string ⟨#[98]⟩, .int .i64 13, .int .i64 20]) (by rfl) (by intro w' hC; clear hC; go_simp) ?_ ?_
  · intro w' hC _; exact place_any [98] 3 w'
  simp only [Act.put, List.setIfInBounds_toArray, List.set_cons_zero, List.set_cons_succ]
  refine f_val (.bool true) (by rfl) ?_ ?_
  · intro w' hC; have z := HQ3.out w'; clear hC; go_simp
  simp only [Act.put, List.setIfInBounds_toArray, List.set_cons_zero, List.set_cons_succ]
  refine f_val (.bool true) (by rfl) ?_ ?_
  · intro w' hC; clear hC; go_simp
  simp only [Act.put, List.setIfInBounds_toArray, List.set_cons_zero, List.set_cons_succ]
  refine f_val (.bool true) (by rfl) ?_ ?_
  · intro w' hC; clear hC; go_simp
  simp only [Act.put, List.setIfInBounds_toArray, List.set_cons_zero, List.set_cons_succ]
  refine f_val (.bool true) (by rfl) ?_ ?_
  · intro w' hC; clear hC; go_simp
  simp only [Act.put, List.setIfInBounds_toArray, List.set_cons_zero, List.set_cons_succ]
  refine f_val (.bool true) (by rfl) ?_ ?_
  · intro w' hC; clear hC; go_simp
  simp only [Act.put, List.setIfInBounds_toArray, List.set_cons_zero, List.set_cons_succ]
  refine f_val (.bool true) (by rfl) ?_ ?_
  · intro w' hC; clear hC; go_simp
  simp only [Act.put, List.setIfInBounds_toArray, List.set_cons_zero, List.set_cons_succ]
  refine f_val (.pointer (some ⟨d, 0, none⟩)) (by rfl) ?_ ?_
  · intro w' hC; clear hC; go_simp
  simp only [Act.put, List.setIfInBounds_toArray, List.set_cons_zero, List.set_cons_succ]
  refine f_call 22 #[.pointer (some ⟨d, 0, none⟩)] (.int .i64 1) (by rfl) (by intro w' hC; clear hC; go_simp) ?_ ?_
  · intro w' hC _; exact HMA.out w' hC
  simp only [Act.put, List.setIfInBounds_toArray, List.set_cons_zero, List.set_cons_succ]
  refine f_val (.bool true) (by rfl) ?_ ?_
  · intro w' hC; clear hC; go_simp
  simp only [Act.put, List.setIfInBounds_toArray, List.set_cons_zero, List.set_cons_succ]
  refine f_val (.bool true) (by rfl) ?_ ?_
  · intro w' hC; clear hC; go_simp
  simp only [Act.put, List.setIfInBounds_toArray, List.set_cons_zero, List.set_cons_succ]
  refine f_val (.bool true) (by rfl) ?_ ?_
  · intro w' hC; clear hC; go_simp
  simp only [Act.put, List.setIfInBounds_toArray, List.set_cons_zero, List.set_cons_succ]
  refine f_val (.pointer (some ⟨d, 0, none⟩)) (by rfl) ?_ ?_
  · intro w' hC; clear hC; go_simp
  simp only [Act.put, List.setIfInBounds_toArray, List.set_cons_zero, List.set_cons_succ]
  refine f_call 18 #[.pointer (some ⟨d, 0, none⟩), .string ⟨#[]⟩, .int .i64 (-1)] (.slice none 0 0) (by rfl) (by intro w' hC; clear hC; go_simp) ?_ ?_
  · intro w' hC _; exact from_none [] (-1) (by omega) w' d
  simp only [Act.put, List.setIfInBounds_toArray, List.set_cons_zero, List.set_cons_succ]
  refine f_val (.int .i64 0) (by rfl) ?_ ?_
  · intro w' hC; clear hC; go_simp
  simp only [Act.put, List.setIfInBounds_toArray, List.set_cons_zero, List.set_cons_succ]
  refine f_val (.bool true) (by rfl) ?_ ?_
  · intro w' hC; clear hC; go_simp
  simp only [Act.put, List.setIfInBounds_toArray, List.set_cons_zero, List.set_cons_succ]
  refine f_val (.bool true) (by rfl) ?_ ?_
  · intro w' hC; clear hC; go_simp
  simp only [Act.put, List.setIfInBounds_toArray, List.set_cons_zero, List.set_cons_succ]
  refine f_val (.bool true) (by rfl) ?_ ?_
  · intro w' hC; clear hC; go_simp
  simp only [Act.put, List.setIfInBounds_toArray, List.set_cons_zero, List.set_cons_succ]
  refine wpF_end ?_
  intro w9 hC hks
  have HCw9 := Lib.hid hC
  clear hC hks
  go_wp2_with (fail)
  go_ret
  exact ⟨rfl, (HK.out.grow HCw9.out).low⟩
end Go.Proofs.Ytadgbobemmfjoaa
