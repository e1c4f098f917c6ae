/-
  The walks of law 04's great and head.
-/
import Derived.Test.YtmfhpfehphbklaaRcSame
import Derived.Test.YtmfhpfehphbklaaRcGetAny
namespace Go.Proofs.Ytmfhpfehphbklaa
open Go.RowKit
set_option linter.unusedSimpArgs false
set_option linter.unusedVariables false

def IsBool (e : Ending) : Prop := ∃ g : Bool, e = .returned (.bool g)
theorem great_any (kd : Int) (s : ByteArray) (id no size : Int) (LA : Option Addr) (ln lc : Nat) (BA : Option Addr) (bn bc : Nat) (w : World) :
    Calls Try.prog 13 #[.agg #[.int .i64 kd, .string s, .int .i64 id, .int .i64 no, .int .i64 size, .slice LA ln lc, .slice BA bn bc]] w fun e w' => IsBool e ∧ Below w.heap.size w w' := by
  obtain ⟨x, hx⟩ : ∃ x, IntKind.i64.wrap ((s.size : Int) + (bn : Int)) = x := ⟨_, rfl⟩
  have hx2 : wrap64 ((s.size : Int) + (bn : Int)) = x := by rw [← IntWalk.i64_left]; exact hx
  go_enter Try.func13, Try.ntmps13
  go_wp2_with (fail)
  all_goals
    go_ret
    exact ⟨⟨_, rfl⟩, grows_alloc _ _⟩

theorem locs_one {w : World} {g t : Nat} (l : Lc) (h : Whole w g t #[.int .i64 l.1, .int .i64 l.2.1, .int .i64 l.2.2]) : Locs w (some ⟨g, 0, none⟩) 1 1 [l] :=
  ⟨rfl, Nat.le_refl _, (fun h => by cases h), ⟨rfl, fun k v hv => ⟨⟨g, 0, none⟩, rfl, h.lt, by
    rw [show (⟨g, 0, none⟩ : Addr).add k = ⟨g, k, none⟩ by unfold Addr.add; split <;> simp_all, h.cell k]
    simpa [lcCells, lcV] using hv⟩⟩⟩
def recA : Rc := ⟨3, [97, 98], 0, 0, 0, [], [120, 121]⟩
def recR : Rc := ⟨2, [107], 7, 0, 5, [(1, 258, 5)], []⟩
def bytesR : List UInt8 := [2, 1, 107, 0, 0, 0, 0, 0, 7, 0, 0, 5, 0, 1, 0, 0, 0, 1, 0, 0, 1, 2, 0, 5]
theorem putA : putR recA = [3, 2, 97, 98, 120, 121] := by decide +kernel
theorem putR_R : putR recR = bytesR := by decide +kernel
theorem getR_R : getR bytesR = some recR := by decide +kernel
theorem getR_51 : getR [5, 1] = Option.none := by decide +kernel
theorem right_none_ : ¬ RightR Rc.none := by decide +kernel

set_option maxRecDepth 100000 in
set_option maxHeartbeats 4000000 in
theorem head_any (w : World) :
    Calls Try.prog 12 #[] w fun e w' => e = .returned (.bool true) ∧ Below w.heap.size w w' := by
  have hm0 := Whole.made w 5 #[.int .u8 120, .int .u8 121]
  obtain ⟨w0, hrun0, hheld0, hbel0, _⟩ := conv_mark (n := 2) (c := 2) hm0
  have hg0 : Grows w w0 := Below.trans ((Below.refl _ _).alloc (Nat.le_refl _) _) hbel0
  have hs0 := hheld0.sl [120, 121] rfl rfl
  have HG0 := Lib.hid hg0
  have HP := Lib.hid (put_own recA none 0 0 (some ⟨w.heap.size, 0, none⟩) 2 2 w0 ⟨Locs.nil _, hs0⟩)
  rw [putA] at HP
  clear hm0 hheld0 hbel0 hg0 hs0
  go_enter Try.func12, Try.ntmps12
  go_wp2_with (fail)
  refine HP.out.mono ?_
  rintro e w1 ⟨A1, m1, c1, rfl, ho1, hb1⟩
  have hm1 : m1 = 6 := by have := ho1.1; simpa using this.symm
  subst hm1
  have HS1 := Lib.hid (Sl.owned ho1)
  have HG1 := Lib.hid (Grows.trans HG0.out hb1)
  clear ho1 hb1 HP HG0
  go_wp2_with (fail)
  have hl2 := Whole.made w1 67 #[.int .i64 1, .int .i64 258, .int .i64 5]
  have hg2 := grows_alloc w1 (.cells #[.int .i64 1, .int .i64 258, .int .i64 5] 67)
  have hr2 := Whole.made (w1.alloc (.cells #[.int .i64 1, .int .i64 258, .int .i64 5] 67)) 25 #[.int .i64 2, .string ⟨#[107]⟩, .int .i64 7, .int .i64 0, .int .i64 5, .slice (some ⟨w1.heap.size, 0, none⟩) 1 1, .slice none 0 0]
  have hg3 := grows_alloc (w1.alloc (.cells #[.int .i64 1, .int .i64 258, .int .i64 5] 67)) (.cells #[.int .i64 2, .string ⟨#[107]⟩, .int .i64 7, .int .i64 0, .int .i64 5, .slice (some ⟨w1.heap.size, 0, none⟩) 1 1, .slice none 0 0] 25)
  rw [World.size_alloc] at hr2
  have hin := RcIn.grow hg3 (show RcIn _ (some ⟨w1.heap.size, 0, none⟩) 1 1 none 0 0 recR from ⟨locs_one (1, 258, 5) hl2, Sl.nil _⟩)
  have HIN := Lib.hid hin
  have HR2 := Lib.hid hr2
  have HG2 := Lib.hid (Grows.trans hg2 hg3)
  obtain ⟨w2, hw2⟩ : ∃ w2, (w1.alloc (.cells #[.int .i64 1, .int .i64 258, .int .i64 5] 67)).alloc (.cells #[.int .i64 2, .string ⟨#[107]⟩, .int .i64 7, .int .i64 0, .int .i64 5, .slice (some ⟨w1.heap.size, 0, none⟩) 1 1, .slice none 0 0] 25) = w2 := ⟨_, rfl⟩
  rw [hw2] at HIN HR2 HG2
  rw [hw2]
  clear hl2 hg2 hr2 hg3 hin hw2
  have hp := put_own recR (some ⟨w1.heap.size, 0, none⟩) 1 1 none 0 0 w2 HIN.out
  rw [putR_R] at hp
  refine hp.mono ?_
  clear hp
  rintro e w3 ⟨A3, m3, c3, rfl, ho3, hb3⟩
  have hm3 : m3 = 24 := by have := ho3.1; simpa [bytesR] using this.symm
  subst hm3
  have g3 : Grows w2 w3 := hb3
  have HS3 := Lib.hid (Sl.owned ho3)
  have HT3 := Lib.hid (HS1.out.grow (Grows.trans HG2.out g3))
  have HG3 := Lib.hid (Grows.trans HG1.out (Grows.trans HG2.out g3))
  have HR3 := Lib.hid (g3.whole HR2.out)
  have HI3 := Lib.hid (HIN.out.grow g3)
  clear ho3 hb3 g3 HS1 HG1 HG2 HR2 HIN
  go_wp2_with (fail)
  have hg := get_any A3 24 c3 bytesR w3 HS3.out (by omega)
  rw [getR_R] at hg
  simp only [Option.getD_some, Option.isSome_some] at hg
  refine hg.mono ?_
  clear hg
  rintro e w4 ⟨LA, ln, lc, BA, bn, bc, rfl, hin4, hb4⟩
  have g4 : Grows w3 w4 := hb4
  have hl4 := hin4.inn.locs.len
  have hx4 := Whole.made w4 25 #[.int .i64 recR.kind, .string ⟨recR.key.toArray⟩, .int .i64 recR.id, .int .i64 recR.no, .int .i64 recR.size, .slice LA ln lc, .slice BA bn bc]
  have k4 := grows_alloc w4 (.cells #[.int .i64 recR.kind, .string ⟨recR.key.toArray⟩, .int .i64 recR.id, .int .i64 recR.no, .int .i64 recR.size, .slice LA ln lc, .slice BA bn bc] 25)
  have HX4 := Lib.hid hx4
  have HIN4 := Lib.hid (hin4.inn.grow k4)
  have HL4 := Lib.hid hl4
  have hu := Grows.trans g4 k4
  have HS4 := Lib.hid (HS3.out.grow hu)
  have HT4 := Lib.hid (HT3.out.grow hu)
  have HG4 := Lib.hid (Grows.trans HG3.out hu)
  have HR4 := Lib.hid (hu.whole HR3.out)
  have HI4 := Lib.hid (HI3.out.grow hu)
  clear hin4 hb4 g4 hl4 hx4 k4 hu HS3 HT3 HG3 HR3 HI3
  go_wp2_with (fail)
  obtain ⟨w5, hw5⟩ : ∃ w5, w4.alloc (.cells #[.int .i64 recR.kind, .string ⟨recR.key.toArray⟩, .int .i64 recR.id, .int .i64 recR.no, .int .i64 recR.size, .slice LA ln lc, .slice BA bn bc] 25) = w5 := ⟨_, rfl⟩
  rw [hw5] at HX4 HIN4 HS4 HT4 HG4 HR4 HI4
  rw [hw5]
  have hsz5 : w5.heap.size = w4.heap.size + 1 := by rw [← hw5]; simp
  have hm5 := Whole.made w5 5 #[.int .u8 5, .int .u8 1]
  have hg := get_any (some ⟨w5.heap.size, 0, none⟩) 2 2 [5, 1] _ (hm5.sl [5, 1] rfl rfl) (by omega)
  rw [getR_51] at hg
  simp only [Option.getD_none, Option.isSome_none] at hg
  rw [hsz5] at hg
  refine hg.mono ?_
  clear hg
  rintro e w6 ⟨LB, lm, ld, BB, bm, bd, rfl, _, hb6⟩
  have g6 := Grows.trans (grows_alloc w5 (.cells #[.int .u8 5, .int .u8 1] 5)) hb6
  have k6 := Grows.trans g6 (grows_alloc w6 (.cells #[.int .i64 Rc.none.kind, .string ⟨Rc.none.key.toArray⟩, .int .i64 Rc.none.id, .int .i64 Rc.none.no, .int .i64 Rc.none.size, .slice LB lm ld, .slice BB bm bd] 25))
  obtain ⟨w7, hw7⟩ : ∃ w7, w6.alloc (.cells #[.int .i64 Rc.none.kind, .string ⟨Rc.none.key.toArray⟩, .int .i64 Rc.none.id, .int .i64 Rc.none.no, .int .i64 Rc.none.size, .slice LB lm ld, .slice BB bm bd] 25) = w7 := ⟨_, rfl⟩
  rw [hw7] at k6
  have HG7 := Lib.hid (Grows.trans HG4.out k6)
  have hx := k6.whole HX4.out
  have x0 := hx.cell 0
  have x1 := hx.cell 1
  have x2 := hx.cell 2
  have x3 := hx.cell 3
  have x4 := hx.cell 4
  have x5 := hx.cell 5
  have x6 := hx.cell 6
  have hr := k6.whole HR4.out
  have r0 := hr.cell 0
  have r1 := hr.cell 1
  have r2 := hr.cell 2
  have r3 := hr.cell 3
  have r4 := hr.cell 4
  have r5 := hr.cell 5
  have r6 := hr.cell 6
  simp only [List.getElem?_toArray, List.getElem?_cons_zero, List.getElem?_cons_succ] at x0 x1 x2 x3 x4 x5 x6 r0 r1 r2 r3 r4 r5 r6
  have s1 := run_string (HT4.out.grow k6)
  have s2 := run_string (HS4.out.grow k6)
  have q1 : (⟨[3, 2, 97, 98, 120, 121].toArray⟩ : ByteArray) = ⟨#[3, 2, 97, 98, 120, 121]⟩ := rfl
  have q2 : (⟨bytesR.toArray⟩ : ByteArray) = ⟨#[2, 1, 107, 0, 0, 0, 0, 0, 7, 0, 0, 5, 0, 1, 0, 0, 0, 1, 0, 0, 1, 2, 0, 5]⟩ := rfl
  rw [q1] at s1
  rw [q2] at s2
  have hsame := same_any recR recR LA ln lc BA bn bc (some ⟨w1.heap.size, 0, none⟩) 1 1 none 0 0 w7 (HIN4.out.grow k6) (HI4.out.grow k6) (by have := HL4.out; simp [recR] at this; omega)
  rw [decide_eq_true rfl] at hsame
  have HSAME := Lib.hid hsame
  clear hb6 g6 k6 hx hr hsame q1 q2 HX4 HIN4 HS4 HT4 HG4 HR4 HI4 HL4 hsz5 hw5
  go_wp2_with (fail)
  try rw [hw7]
  refine HSAME.out.mono ?_
  rintro e w8 ⟨rfl, hb8⟩
  have HG8 := Lib.hid (Grows.trans HG7.out hb8)
  clear hb8 HSAME s1 s2
  go_wp2_with (fail)
  have hk := key_any ⟨#[97]⟩ w8
  rw [show decide (1 ≤ (⟨#[97]⟩ : ByteArray).size ∧ (⟨#[97]⟩ : ByteArray).size ≤ 64) = true from rfl] at hk
  refine hk.mono ?_
  clear hk
  rintro e w9 ⟨rfl, hb9⟩
  have HG9 := Lib.hid (Grows.trans HG8.out hb9)
  clear hb9
  go_wp2_with (fail)
  have hk := key_any ⟨#[]⟩ w9
  rw [show decide (1 ≤ (⟨#[]⟩ : ByteArray).size ∧ (⟨#[]⟩ : ByteArray).size ≤ 64) = false from rfl] at hk
  refine hk.mono ?_
  clear hk
  rintro e w10 ⟨rfl, hb10⟩
  have HG10 := Lib.hid (Grows.trans HG9.out hb10)
  clear hb10
  go_wp2_with (fail)
  have hk := rcright_any Rc.none none 0 0 none 0 0 w10 ⟨Locs.nil _, Sl.nil _⟩
  rw [decide_eq_false right_none_] at hk
  refine hk.mono ?_
  clear hk
  rintro e w11 ⟨rfl, hb11⟩
  have HG11 := Lib.hid (Grows.trans HG10.out hb11)
  clear hb11
  go_wp2_with (fail)
  go_ret
  exact ⟨rfl, HG11.out⟩
end Go.Proofs.Ytmfhpfehphbklaa
