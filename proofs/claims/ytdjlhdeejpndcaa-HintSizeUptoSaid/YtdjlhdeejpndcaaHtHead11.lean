/-
  The walk of law 11's head.
-/
import Derived.Test.YtdjlhdeejpndcaaMHc
import Derived.Test.YtdjlhdeejpndcaaHtGet
import Derived.Test.YtdjlhdeejpndcaaHtSame
namespace Go.Proofs.Ytdjlhdeejpndcaa
open Go.RowKit
set_option linter.unusedVariables false
set_option linter.unusedSimpArgs false

def tombF (k : List UInt8) (a : Int) : Fd := ⟨a, 10, 4, k, 0, 0, 0, (none, 0, 0), (none, 0, 0)⟩
set_option maxRecDepth 100000 in
set_option maxHeartbeats 4000000 in
theorem tomb_any (k : List UInt8) (a : Int) (w : World) : Calls Try.prog 15 #[.string ⟨k.toArray⟩, .int .i64 a] w fun e w' =>
    e = .returned (.agg #[.int .i64 a, .int .i64 10, .int .i64 4, .string ⟨k.toArray⟩, .int .i64 0, .int .i64 0, .int .i64 0, .slice none 0 0, .slice none 0 0]) ∧ Grows w w' := by
  obtain ⟨ks, hks⟩ : ∃ ks : ByteArray, (⟨k.toArray⟩ : ByteArray) = ks := ⟨_, rfl⟩
  rw [hks]
  clear hks
  have hm := Whole.made w 43 #[.int .i64 0, .int .i64 0, .int .i64 0, .string ⟨#[]⟩, .int .i64 0, .int .i64 0, .int .i64 0, .slice none 0 0, .slice none 0 0]
  have hg := grows_alloc w (.cells #[.int .i64 0, .int .i64 0, .int .i64 0, .string ⟨#[]⟩, .int .i64 0, .int .i64 0, .int .i64 0, .slice none 0 0, .slice none 0 0] 43)
  obtain ⟨W1, hW1⟩ : ∃ y, w.alloc (.cells #[.int .i64 0, .int .i64 0, .int .i64 0, .string ⟨#[]⟩, .int .i64 0, .int .i64 0, .int .i64 0, .slice none 0 0, .slice none 0 0] 43) = y := ⟨_, rfl⟩
  rw [hW1] at hm hg
  have HM := Lib.hid hm
  have HG := Lib.hid hg
  clear hm hg
  have hsz : (Try.prog.info? 43).map (·.size) = some 9 := by kernel_rfl
  go_enter Try.func15, Try.ntmps15
  go_wp2_with (first
    | rw [hW1]
    | (refine wpList_store_row rfl 43 _ _ rfl w.heap.size #[.int .i64 a, .int .i64 10, .int .i64 4, .string ks, .int .i64 0, .int .i64 0, .int .i64 0, .slice none 0 0, .slice none 0 0] rfl rfl 43 _ HM.out hsz rfl (by simp [Value.oneCell']) ?_)
    | fail)
  refine bodyPost_ret (results_cell_row rfl _ _ w.heap.size 43 #[.int .i64 a, .int .i64 10, .int .i64 4, .string ks, .int .i64 0, .int .i64 0, .int .i64 0, .slice none 0 0, .slice none 0 0] (0, 0) _ rfl (setRow_heap W1 w.heap.size _ _ 43 _ HM.out) Try.underlying43 rfl hsz) rfl ?_
  exact ⟨rfl, below_setRow HG.out (Nat.le_refl _) _⟩

/-- What the head puts, and finds. -/
def headF (g : Nat) : List Fd := [tombF [98] 13, ⟨23, 19, 1, [], 0, 0, 0, (none, 0, 0), (some ⟨g, 0, none⟩, 1, 1)⟩, tombF [97] 42, tombF [98] 52]
def headL : List Ht := [⟨4, [97], 42, 10⟩, ⟨4, [98], 52, 10⟩]
theorem head_of (g : Nat) : ofP (headF g) = headL := rfl
theorem head_right : rightH headL = true := rfl
theorem head_len : (putH headL 62).length = 53 := by rw [putH_length head_right rfl]; rfl
theorem head_get (s : Int) : getH (putH headL 62) s = if s = 62 then some headL else none := get_putH head_right rfl s
theorem get_nil (s : Int) : getH [] s = none := by
  unfold getH
  rw [allB_nil]
  simp

set_option maxRecDepth 100000 in
set_option maxHeartbeats 8000000 in
theorem head11_any (w : World) : Calls Try.prog 7 #[] w fun e w' => e = .returned (.bool true) ∧ Grows w w' := by
  go_enter Try.func7, Try.ntmps7
  go_wp2_with (fail)
  refine (tomb_any [98] 13 w).mono ?_
  rintro e w1 ⟨rfl, hg1⟩
  have HG1 := Lib.hid hg1
  clear hg1
  go_wp2_with (fail)
  refine (tomb_any [97] 42 _).mono ?_
  rintro e w2 ⟨rfl, hg2⟩
  have HG2 := Lib.hid (HG1.out.trans (Grows.trans (grows_alloc _ _) hg2))
  clear hg2
  go_wp2_with (fail)
  refine (tomb_any [98] 52 _).mono ?_
  rintro e w3 ⟨rfl, hg3⟩
  have HG3 := Lib.hid (HG2.out.trans hg3)
  clear hg3
  go_wp2_with (fail)
  have hm4 := Rs.lit fdL (Whole.made w3 43 (((headF w1.heap.size).flatMap fdE).toArray)) (headF w1.heap.size) rfl (n := 4) rfl
  have hg4 := grows_alloc w3 (.cells (((headF w1.heap.size).flatMap fdE).toArray) 43)
  have hof := of_hints (some ⟨w3.heap.size, 0, none⟩) 4 4 (headF w1.heap.size) _ hm4 (by omega)
  rw [head_of] at hof
  have HOF := Lib.hid hof
  have HG4 := Lib.hid (HG3.out.trans hg4)
  clear hm4 hg4 hof
  refine (show Calls _ _ _ _ _ from HOF.out).mono ?_
  rintro e w5 ⟨A5, c5, rfl, ho5, hg5⟩
  have HL := Lib.hid (Rs.owned htL (l := headL) (n := 2) rfl (owned_from ho5 (Nat.zero_le _)))
  have HG5 := Lib.hid (HG4.out.trans hg5)
  clear ho5 hg5 HOF
  show _
  go_wp2_with (fail)
  refine (hput_any A5 2 c5 headL 62 w5 HL.out (by omega) (by omega)).mono ?_
  rintro e w6 ⟨A6, m6, c6, rfl, hm6, ho6, hg6⟩
  rw [head_len] at hm6
  subst hm6
  have HP := Lib.hid (Sl.owned ho6)
  have HL6 := Lib.hid (HL.out.grow hg6)
  have HG6 := Lib.hid (HG5.out.trans hg6)
  clear ho6 hg6
  go_wp2_with (fail)
  refine (hget_any A6 53 c6 (putH headL 62) 62 w6 HP.out (by omega)).mono ?_
  rw [head_get, if_pos rfl]
  rintro e w7 ⟨A7, m7, c7, rfl, hm7, ho7, hg7⟩
  obtain rfl : m7 = 2 := hm7
  have HX := Lib.hid (Rs.owned htL (l := headL) (n := 2) rfl (owned_from ho7 (Nat.zero_le _)))
  have HG7 := Lib.hid (And.intro (HG6.out.trans hg7) (And.intro (HL6.out.grow hg7) (HP.out.grow hg7)))
  clear ho7 hg7
  dsimp only [Option.isSome]
  go_wp2_with (fail)
  refine (hget_any A6 53 c6 (putH headL 62) 63 w7 HG7.out.2.2 (by omega)).mono ?_
  rw [head_get, if_neg (by decide)]
  rintro e w8 ⟨A8, m8, c8, rfl, hm8, _, hg8⟩
  obtain rfl : m8 = 0 := hm8
  have HG8 := Lib.hid (And.intro (HG7.out.1.trans hg8) (And.intro (HG7.out.2.1.grow hg8) (HX.out.grow hg8)))
  clear hg8 HG7 HX
  dsimp only [Option.isSome]
  go_wp2_with (fail)
  refine (hget_any none 0 0 [] 0 w8 (Sl.nil _) (by omega)).mono ?_
  rw [get_nil]
  rintro e w9 ⟨A9, m9, c9, rfl, hm9, _, hg9⟩
  obtain rfl : m9 = 0 := hm9
  have HG9 := Lib.hid (And.intro (HG8.out.1.trans hg9) (And.intro (HG8.out.2.1.grow hg9) (HG8.out.2.2.grow hg9)))
  clear hg9 HG8
  dsimp only [Option.isSome]
  go_wp2_with (fail)
  have hm10 := Rs.lit htL (Whole.made w9 35 ((headL.flatMap htE).toArray)) headL rfl (n := 2) rfl
  have hg10 := grows_alloc w9 (.cells ((headL.flatMap htE).toArray) 35)
  have hsm := same_hints A5 2 c5 (some ⟨w9.heap.size, 0, none⟩) 2 2 headL headL _ (HG9.out.2.1.grow hg10) hm10 (by omega)
  rw [decide_eq_true (rfl : headL = headL)] at hsm
  have HSM := Lib.hid hsm
  have HG10 := Lib.hid (And.intro (HG9.out.1.trans hg10) (And.intro (HG9.out.2.1.grow hg10) (HG9.out.2.2.grow hg10)))
  clear hm10 hg10 hsm HG9
  refine (show Calls _ _ _ _ _ from HSM.out).mono ?_
  rintro e w11 ⟨rfl, hg11⟩
  have HG11 := Lib.hid (And.intro (HG10.out.1.trans hg11) (And.intro (HG10.out.2.1.grow hg11) (HG10.out.2.2.grow hg11)))
  clear hg11 HG10 HSM
  show _
  go_wp2_with (fail)
  have hsm := same_hints A7 2 c7 A5 2 c5 headL headL w11 HG11.out.2.2 HG11.out.2.1 (by omega)
  rw [decide_eq_true (rfl : headL = headL)] at hsm
  refine hsm.mono ?_
  clear hsm
  rintro e w12 ⟨rfl, hg12⟩
  have HG12 := Lib.hid (And.intro (HG11.out.1.trans hg12) (HG11.out.2.1.grow hg12))
  clear hg12 HG11
  go_wp2_with (fail)
  refine (hright_any A5 2 c5 headL w12 HG12.out.2 (by omega)).mono ?_
  rw [head_right]
  rintro e w13 ⟨rfl, hg13⟩
  have HG13 := Lib.hid (HG12.out.1.trans hg13)
  clear hg13 HG12
  go_wp2_with (fail)
  have hm14 := Rs.lit htL (Whole.made w13 35 (([Ht.none].flatMap htE).toArray)) [Ht.none] rfl (n := 1) rfl
  have hg14 := grows_alloc w13 (.cells (([Ht.none].flatMap htE).toArray) 35)
  have hri := hright_any (some ⟨w13.heap.size, 0, none⟩) 1 1 [Ht.none] _ hm14 (by omega)
  rw [show rightH [Ht.none] = false from rfl] at hri
  have HRI := Lib.hid hri
  have HG14 := Lib.hid (HG13.out.trans hg14)
  clear hm14 hg14 hri
  refine (show Calls _ _ _ _ _ from HRI.out).mono ?_
  rintro e w15 ⟨rfl, hg15⟩
  have HG15 := Lib.hid (HG14.out.trans hg15)
  clear hg15
  show _
  go_wp2_with (fail)
  go_ret
  exact ⟨rfl, HG15.out⟩
end Go.Proofs.Ytdjlhdeejpndcaa

