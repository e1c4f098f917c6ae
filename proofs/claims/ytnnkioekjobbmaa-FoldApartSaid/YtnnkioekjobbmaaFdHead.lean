/-
  Law 14's head: a live question, whose answer is fixed.
-/
import Derived.Test.YtnnkioekjobbmaaFdFold
import Derived.Test.YtnnkioekjobbmaaFdHints
import Derived.Test.YtnnkioekjobbmaaFdLive
import Derived.Test.YtnnkioekjobbmaaFdSame
namespace Go.Proofs.Ytnnkioekjobbmaa
open Go.RowKit
set_option linter.unusedVariables false
set_option linter.unusedSimpArgs false

theorem flat_in : ∀ xs : List Int, xs.flatMap inE = xs.map fun z => Value.int .i64 z
  | [] => rfl
  | a :: r => by rw [List.flatMap_cons, List.map_cons, ← flat_in r]; rfl
theorem ins_lit {w : World} {g : Nat} {xs : List Int} (h : Whole w g 3 (xs.map fun z => Value.int .i64 z).toArray) {n : Nat} (hn : xs.length = n) : Ins w (some ⟨g, 0, none⟩) n n xs :=
  Rs.lit inL h xs (by rw [flat_in]) hn
def hA : Ht := ⟨3, [97], 13, 20⟩
def hB : Ht := ⟨3, [98], 33, 20⟩
def hB2 : Ht := ⟨3, [98], 13, 20⟩
def hC : Ht := ⟨4, [99], 40, 10⟩
theorem flat_sl : ∀ xs : List Sl3, xs.flatMap fslE = xs.map fslV
  | [] => rfl
  | a :: r => by rw [List.flatMap_cons, List.map_cons, ← flat_sl r]; rfl
/-- Two lists of hints, or one, by their slices. -/
theorem lls_lit {w : World} {g : Nat} {sl : List Sl3} {ls : List (List Ht)} (h : Whole w g 36 (sl.map fslV).toArray) {n : Nat} (hn : sl.length = n) (hl : ls.length = n) (he : ∀ (i : Nat) (s : Sl3) (l : List Ht), sl[i]? = some s → ls[i]? = some l → Hts w s.1 s.2.1 s.2.2 l) : Lls w (some ⟨g, 0, none⟩) n n sl ls :=
  ⟨Rs.lit fslL h sl (by rw [flat_sl]) hn, hl, he⟩
set_option maxRecDepth 100000 in
set_option maxHeartbeats 8000000 in
theorem head14_any (w : World) : Calls Try.prog 8 #[] w fun e w' => e = .returned (.bool true) ∧ Grows w w' := by
  have g1 := grows_alloc w (.cells #[.int .i64 3, .int .i64 5] 3)
  have m1 := Whole.made w 3 #[.int .i64 3, .int .i64 5]
  obtain ⟨W1, hW1⟩ : ∃ V, w.alloc (.cells #[.int .i64 3, .int .i64 5] 3) = V := ⟨_, rfl⟩
  rw [hW1] at g1 m1
  obtain ⟨b1, e1⟩ : ∃ b, w.heap.size = b := ⟨_, rfl⟩
  rw [e1] at m1
  go_enter Try.func8, Try.ntmps8
  go_wp2_with (first | rw [hW1] | fail)
  refine (hint_any [97] 13 W1).mono ?_
  rintro e w2 ⟨rfl, gw2⟩
  go_wp2_with (first | fail)
  refine (hint_any [98] 33 w2).mono ?_
  rintro e w3 ⟨rfl, gw3⟩
  have g4 := grows_alloc w3 (.cells #[.int .i64 3, .string ⟨[97].toArray⟩, .int .i64 13, .int .i64 20, .int .i64 3, .string ⟨[98].toArray⟩, .int .i64 33, .int .i64 20] 33)
  have m4 := Whole.made w3 33 #[.int .i64 3, .string ⟨[97].toArray⟩, .int .i64 13, .int .i64 20, .int .i64 3, .string ⟨[98].toArray⟩, .int .i64 33, .int .i64 20]
  obtain ⟨W4, hW4⟩ : ∃ V, w3.alloc (.cells #[.int .i64 3, .string ⟨[97].toArray⟩, .int .i64 13, .int .i64 20, .int .i64 3, .string ⟨[98].toArray⟩, .int .i64 33, .int .i64 20] 33) = V := ⟨_, rfl⟩
  rw [hW4] at g4 m4
  obtain ⟨b4, e4⟩ : ∃ b, w3.heap.size = b := ⟨_, rfl⟩
  rw [e4] at m4
  go_wp2_with (first | rw [hW4] | fail)
  refine (hint_any [98] 13 W4).mono ?_
  rintro e w5 ⟨rfl, gw5⟩
  have g6 := grows_alloc w5 (.cells #[.int .i64 3, .string ⟨[98].toArray⟩, .int .i64 13, .int .i64 20, .int .i64 4, .string ⟨[99].toArray⟩, .int .i64 40, .int .i64 10] 33)
  have m6 := Whole.made w5 33 #[.int .i64 3, .string ⟨[98].toArray⟩, .int .i64 13, .int .i64 20, .int .i64 4, .string ⟨[99].toArray⟩, .int .i64 40, .int .i64 10]
  obtain ⟨W6, hW6⟩ : ∃ V, w5.alloc (.cells #[.int .i64 3, .string ⟨[98].toArray⟩, .int .i64 13, .int .i64 20, .int .i64 4, .string ⟨[99].toArray⟩, .int .i64 40, .int .i64 10] 33) = V := ⟨_, rfl⟩
  rw [hW6] at g6 m6
  obtain ⟨b6, e6⟩ : ∃ b, w5.heap.size = b := ⟨_, rfl⟩
  rw [e6] at m6
  have g7 := grows_alloc W6 (.cells #[.slice (some ⟨b4, 0, none⟩) 2 2, .slice (some ⟨b6, 0, none⟩) 2 2] 36)
  have m7 := Whole.made W6 36 #[.slice (some ⟨b4, 0, none⟩) 2 2, .slice (some ⟨b6, 0, none⟩) 2 2]
  obtain ⟨W7, hW7⟩ : ∃ V, W6.alloc (.cells #[.slice (some ⟨b4, 0, none⟩) 2 2, .slice (some ⟨b6, 0, none⟩) 2 2] 36) = V := ⟨_, rfl⟩
  rw [hW7] at g7 m7
  obtain ⟨b7, e7⟩ : ∃ b, W6.heap.size = b := ⟨_, rfl⟩
  rw [e7] at m7
  go_wp2_with (first | rw [hW6] | rw [hW7] | fail)
  have HF1 := Lib.hid (show Calls Try.prog 10 #[.slice (some ⟨b1, 0, none⟩) 2 2, .slice (some ⟨b7, 0, none⟩) 2 2] W7 fun e w' => ∃ A' n' c', e = .returned (.tuple #[.slice A' n' c', .bool true]) ∧ OwnPl w' W7.heap.size A' n' c' [(3, hA), (5, hB2), (5, hC)] ∧ Grows W7 w' from by
    have h1 := fold_any _ _ _ [3, 5] _ 2 _ [(some ⟨b4, 0, none⟩, 2, 2), (some ⟨b6, 0, none⟩, 2, 2)] [[hA, hB], [hB2, hC]] W7 ((ins_lit (xs := [3, 5]) m1 rfl).grow (Grows.trans (Grows.trans (Grows.trans (Grows.trans (Grows.trans gw2 gw3) g4) gw5) g6) g7)) (lls_lit m7 rfl rfl (fun i s l hs hl => by
      match i with
      | 0 => (simp at hs hl; subst hs hl; exact ((Rs.lit htL m4 [hA, hB] rfl (n := 2) rfl).grow (Grows.trans (Grows.trans gw5 g6) g7)))
      | 1 => (simp at hs hl; subst hs hl; exact ((Rs.lit htL m6 [hB2, hC] rfl (n := 2) rfl).grow g7))
      | i + 2 => simp at hs)) (by omega) (by decide)
    rw [show okFold [3, 5] [[hA, hB], [hB2, hC]] = true from by decide, show foldAll [3, 5] [[hA, hB], [hB2, hC]] = [(3, hA), (5, hB2), (5, hC)] from by decide] at h1
    exact h1)
  refine HF1.out.mono ?_
  rintro e w8 ⟨A1, n1, c1, rfl, o1, gw8⟩
  obtain rfl : n1 = 3 := o1.len.symm
  have HG8 := Lib.hid (And.intro o1 (Grows.trans (Grows.trans (Grows.trans (Grows.trans (Grows.trans (Grows.trans (Grows.trans g1 gw2) gw3) g4) gw5) g6) g7) gw8))
  clear HF1 o1 g1 gw2 gw3 g4 gw5 g6 g7 gw8 m1 m4 m6 m7 hW1 hW4 hW6 hW7
  have g9 := grows_alloc w8 (.cells #[.int .i64 1] 3)
  have m9 := Whole.made w8 3 #[.int .i64 1]
  obtain ⟨W9, hW9⟩ : ∃ V, w8.alloc (.cells #[.int .i64 1] 3) = V := ⟨_, rfl⟩
  rw [hW9] at g9 m9
  obtain ⟨b9, e9⟩ : ∃ b, w8.heap.size = b := ⟨_, rfl⟩
  rw [e9] at m9
  go_wp2_with (first | rw [hW9] | fail)
  have HF2 := Lib.hid (show Calls Try.prog 10 #[.slice (some ⟨b9, 0, none⟩) 1 1, .slice none 0 0] W9 fun e w' => ∃ A' n' c', e = .returned (.tuple #[.slice A' n' c', .bool false]) ∧ OwnPl w' W9.heap.size A' n' c' [] ∧ Grows W9 w' from by
    have h1 := fold_any _ _ _ [1] _ 0 _ [] [] W9 (ins_lit (xs := [1]) m9 rfl) ⟨Rs.nil _, rfl, fun i s l hs => by simp at hs⟩ (by omega) (by decide)
    rw [show okFold [1] [] = false from by decide, show foldAll [1] [] = [] from by decide] at h1
    exact h1)
  refine HF2.out.mono ?_
  rintro e w10 ⟨A2, n2, c2, rfl, o2, gw10⟩
  have HG10 := Lib.hid (Grows.trans g9 gw10)
  clear HF2 o2 g9 gw10 m9 hW9
  have g11 := grows_alloc w10 (.cells #[.int .i64 1] 3)
  have m11 := Whole.made w10 3 #[.int .i64 1]
  obtain ⟨W11, hW11⟩ : ∃ V, w10.alloc (.cells #[.int .i64 1] 3) = V := ⟨_, rfl⟩
  rw [hW11] at g11 m11
  obtain ⟨b11, e11⟩ : ∃ b, w10.heap.size = b := ⟨_, rfl⟩
  rw [e11] at m11
  go_wp2_with (first | rw [hW11] | fail)
  refine (hint_any [98] 1 W11).mono ?_
  rintro e w12 ⟨rfl, gw12⟩
  go_wp2_with (first | fail)
  refine (hint_any [97] 1 w12).mono ?_
  rintro e w13 ⟨rfl, gw13⟩
  have g14 := grows_alloc w13 (.cells #[.int .i64 3, .string ⟨[98].toArray⟩, .int .i64 1, .int .i64 20, .int .i64 3, .string ⟨[97].toArray⟩, .int .i64 1, .int .i64 20] 33)
  have m14 := Whole.made w13 33 #[.int .i64 3, .string ⟨[98].toArray⟩, .int .i64 1, .int .i64 20, .int .i64 3, .string ⟨[97].toArray⟩, .int .i64 1, .int .i64 20]
  obtain ⟨W14, hW14⟩ : ∃ V, w13.alloc (.cells #[.int .i64 3, .string ⟨[98].toArray⟩, .int .i64 1, .int .i64 20, .int .i64 3, .string ⟨[97].toArray⟩, .int .i64 1, .int .i64 20] 33) = V := ⟨_, rfl⟩
  rw [hW14] at g14 m14
  obtain ⟨b14, e14⟩ : ∃ b, w13.heap.size = b := ⟨_, rfl⟩
  rw [e14] at m14
  have g15 := grows_alloc W14 (.cells #[.slice (some ⟨b14, 0, none⟩) 2 2] 36)
  have m15 := Whole.made W14 36 #[.slice (some ⟨b14, 0, none⟩) 2 2]
  obtain ⟨W15, hW15⟩ : ∃ V, W14.alloc (.cells #[.slice (some ⟨b14, 0, none⟩) 2 2] 36) = V := ⟨_, rfl⟩
  rw [hW15] at g15 m15
  obtain ⟨b15, e15⟩ : ∃ b, W14.heap.size = b := ⟨_, rfl⟩
  rw [e15] at m15
  go_wp2_with (first | rw [hW14] | rw [hW15] | fail)
  have HF3 := Lib.hid (show Calls Try.prog 10 #[.slice (some ⟨b11, 0, none⟩) 1 1, .slice (some ⟨b15, 0, none⟩) 1 1] W15 fun e w' => ∃ A' n' c', e = .returned (.tuple #[.slice A' n' c', .bool false]) ∧ OwnPl w' W15.heap.size A' n' c' [] ∧ Grows W15 w' from by
    have h1 := fold_any _ _ _ [1] _ 1 _ [(some ⟨b14, 0, none⟩, 2, 2)] [[(⟨3, [98], 1, 20⟩ : Ht), ⟨3, [97], 1, 20⟩]] W15 ((ins_lit (xs := [1]) m11 rfl).grow (Grows.trans (Grows.trans (Grows.trans gw12 gw13) g14) g15)) (lls_lit m15 rfl rfl (fun i s l hs hl => by
      match i with
      | 0 => (simp at hs hl; subst hs hl; exact ((Rs.lit htL m14 [(⟨3, [98], 1, 20⟩ : Ht), ⟨3, [97], 1, 20⟩] rfl (n := 2) rfl).grow g15))
      | i + 1 => simp at hs)) (by omega) (by decide)
    rw [show okFold [1] [[(⟨3, [98], 1, 20⟩ : Ht), ⟨3, [97], 1, 20⟩]] = false from by decide, show foldAll [1] [[(⟨3, [98], 1, 20⟩ : Ht), ⟨3, [97], 1, 20⟩]] = [] from by decide] at h1
    exact h1)
  refine HF3.out.mono ?_
  rintro e w16 ⟨A3, n3, c3, rfl, o3, gw16⟩
  have HG16 := Lib.hid (Grows.trans HG10.out (Grows.trans (Grows.trans (Grows.trans (Grows.trans (Grows.trans g11 gw12) gw13) g14) g15) gw16))
  clear HF3 o3 g11 gw12 gw13 g14 g15 gw16 m11 m14 m15 hW11 hW14 hW15
  go_wp2_with (first | fail)
  refine (hint_any [97] 13 w16).mono ?_
  rintro e w17 ⟨rfl, gw17⟩
  go_wp2_with (first | fail)
  refine (hint_any [98] 13 w17).mono ?_
  rintro e w18 ⟨rfl, gw18⟩
  have g19 := grows_alloc w18 (.cells #[.int .i64 3, .int .i64 3, .string ⟨[97].toArray⟩, .int .i64 13, .int .i64 20, .int .i64 5, .int .i64 3, .string ⟨[98].toArray⟩, .int .i64 13, .int .i64 20, .int .i64 5, .int .i64 4, .string ⟨[99].toArray⟩, .int .i64 40, .int .i64 10] 35)
  have m19 := Whole.made w18 35 #[.int .i64 3, .int .i64 3, .string ⟨[97].toArray⟩, .int .i64 13, .int .i64 20, .int .i64 5, .int .i64 3, .string ⟨[98].toArray⟩, .int .i64 13, .int .i64 20, .int .i64 5, .int .i64 4, .string ⟨[99].toArray⟩, .int .i64 40, .int .i64 10]
  obtain ⟨W19, hW19⟩ : ∃ V, w18.alloc (.cells #[.int .i64 3, .int .i64 3, .string ⟨[97].toArray⟩, .int .i64 13, .int .i64 20, .int .i64 5, .int .i64 3, .string ⟨[98].toArray⟩, .int .i64 13, .int .i64 20, .int .i64 5, .int .i64 4, .string ⟨[99].toArray⟩, .int .i64 40, .int .i64 10] 35) = V := ⟨_, rfl⟩
  rw [hW19] at g19 m19
  obtain ⟨b19, e19⟩ : ∃ b, w18.heap.size = b := ⟨_, rfl⟩
  rw [e19] at m19
  have HS := Lib.hid (show Calls Try.prog 12 #[.slice A1 3 c1, .slice (some ⟨b19, 0, none⟩) 3 3] W19 fun e w' => e = .returned (.bool true) ∧ Grows W19 w' from by
    have h1 := same_any W19 ((HG8.out.1.rs).grow (Grows.trans (Grows.trans (Grows.trans HG16.out gw17) gw18) g19)) (Rs.lit plL m19 [((3 : Int), hA), (5, hB2), (5, hC)] rfl (n := 3) rfl) (by decide)
    rw [decide_eq_true rfl] at h1
    exact h1)
  go_wp2_with (first | rw [hW19] | fail)
  refine HS.out.mono ?_
  rintro e w20 ⟨rfl, gw20⟩
  have HLV := Lib.hid (live_any w20 ((HG8.out.1.rs).grow (Grows.trans (Grows.trans (Grows.trans (Grows.trans HG16.out gw17) gw18) g19) gw20)) (by decide))
  go_wp2_with (first | fail)
  refine HLV.out.mono ?_
  rintro e w21 ⟨A4, n4, c4, rfl, o4, gw21⟩
  obtain rfl : n4 = 2 := by
    have h1 := o4.len
    rw [show liveP [((3 : Int), hA), (5, hB2), (5, hC)] = [(3, hA), (5, hB2)] from by decide] at h1
    exact h1.symm
  have HE := Lib.hid (Grows.trans (Grows.trans (Grows.trans (Grows.trans (Grows.trans (Grows.trans HG8.out.2 HG16.out) gw17) gw18) g19) gw20) gw21)
  clear o4 gw21
  go_wp2_with (fail)
  go_ret
  exact ⟨rfl, HE.out⟩
end Go.Proofs.Ytnnkioekjobbmaa
