/-
  The walk of souterrainlaw06.head: it is true, and writes nothing that was there.
-/
import Derived.Test.YtlcpbkbojjpfaaaCutLow
namespace Go.Proofs.Ytlcpbkbojjpfaaa
open Go.RowKit
set_option linter.unusedVariables false
set_option linter.unusedSimpArgs false

theorem apart_new {g : Nat} {v : Value} {k : Nat} {w : World} {B P Z : Nat} {L : List UInt8} (h : CutHas w g B P Z v L) (hk : w.heap.size ≤ k) : ∀ ad : Addr, (some ⟨k, 0, none⟩ : Option Addr) = some ad → ad.block ≠ g ∧ v.ownBlock ≠ some ad.block := fun ad e => by
  injection e with e
  subst e
  have := h.cells.lt
  exact ⟨by dsimp only; omega, fun e => by have := (owned_lt h.left e).2; dsimp only at this; omega⟩

set_option maxRecDepth 100000 in
set_option maxHeartbeats 4000000 in
theorem cutHead_any (w : World) : Calls Try.prog 29 #[] w fun e w' => e = .returned (.bool true) ∧ Below w.heap.size w w' := by
  go_enter Try.func29, Try.ntmps29
  go_wp2_with (fail)
  refine (make_cut 2 w (by omega)).mono ?_
  rintro e w1 ⟨rfl, h1, g1⟩
  have H1 := Lib.hid (And.intro h1 g1)
  clear h1 g1
  go_wp2_with (fail)
  refine (nil_cut 0 w1 (by omega) (by omega)).mono ?_
  rintro e w1' ⟨rfl, rfl⟩
  go_wp2_with (fail)
  refine (nil_cut 4097 w1 (by omega) (by omega)).mono ?_
  rintro e w1' ⟨rfl, rfl⟩
  have hm1 := Whole.made w1 5 #[.int .u8 97, .int .u8 98, .int .u8 99]
  obtain ⟨w2, hrun2, hheld2, hbel2, _⟩ := conv_mark (n := 3) (c := 3) hm1
  have hg2 : Grows w1 w2 := Below.trans ((Below.refl _ _).alloc (Nat.le_refl _) _) hbel2
  have H2 := Lib.hid (And.intro (hheld2.sl [97, 98, 99] rfl rfl) (And.intro hg2 (H1.out.1.grow hg2)))
  clear hm1 hheld2 hbel2 hg2
  go_wp2_with (fail)
  refine (write_low w.heap.size w.heap.size 2 0 _ [] _ 3 3 [97, 98, 99] w2 H2.out.2.2 (Nat.le_refl _) H2.out.1 (fun _ => fun ad e => by
    have := apart_new H1.out.1 (Nat.le_refl w1.heap.size) ad e
    exact this) (by omega) (by omega) (by omega) (Nat.le_trans H1.out.2.size H2.out.2.1.size)).mono ?_
  rintro e w3 ⟨A3, m3, c3, v3, rfl, hl3, hc3, hb3, hs3, hv3⟩
  have HB3 := Lib.hid (Below.trans (Below.trans H1.out.2 (Below.mono H2.out.2.1 H1.out.2.size)) hb3)
  have H3 := Lib.hid (And.intro hl3 (And.intro (show CutHas w3 w.heap.size w.heap.size 2 3 v3 [99] from hc3) hv3))
  clear hl3 hc3 hb3 hs3 hv3 hrun2
  go_wp2_with (fail)
  refine (left_cut w3 H3.out.2.1).mono ?_
  rintro e w3' ⟨rfl, rfl⟩
  have hm4 := Whole.made w3 5 #[.int .u8 100, .int .u8 101]
  obtain ⟨w4, hrun4, hheld4, hbel4, _⟩ := conv_mark (n := 2) (c := 2) hm4
  have hg4 : Grows w3 w4 := Below.trans ((Below.refl _ _).alloc (Nat.le_refl _) _) hbel4
  have H4 := Lib.hid (And.intro (hheld4.sl [100, 101] rfl rfl) (And.intro hg4 (H3.out.2.1.grow hg4)))
  clear hm4 hheld4 hbel4 hg4
  go_wp2_with (fail)
  refine (write_low w.heap.size w.heap.size 2 _ _ _ _ 2 2 [100, 101] w4 H4.out.2.2 (Nat.le_refl _) H4.out.1 (fun _ => fun ad e => apart_new H3.out.2.1 (Nat.le_refl w3.heap.size) ad e) (by omega) (by omega) (by omega) (Nat.le_trans HB3.out.size H4.out.2.1.size)).mono ?_
  rintro e w5 ⟨A5, m5, c5, v5, rfl, hl5, hc5, hb5, hs5, hv5⟩
  obtain ⟨A6, c6, rfl, _⟩ := hc5.slice
  have HB5 := Lib.hid (Below.trans HB3.out (Below.trans (Below.mono H4.out.2.1 HB3.out.size) hb5))
  have H5 := Lib.hid (And.intro hl5 (And.intro (show CutHas w5 w.heap.size w.heap.size 2 5 (.slice A6 1 c6) [101] from hc5) (And.intro hv5 ((Keeps.grows H4.out.2.1).spares (.inl H3.out.2.1.cells) (fun k hk => .inl hk) hs5 : Keeps v3 w3 w5))))
  clear hl5 hc5 hb5 hs5 hv5 hrun4
  go_wp2_with (fail)
  refine (rest_cut w5 HB5.out.size H5.out.2.1).mono ?_
  rintro e w6 ⟨rfl, ho6, hc6, hs6⟩
  have H6 := Lib.hid (And.intro (Sl.owned ho6) (And.intro hc6 (And.intro (H3.out.1 w6 (H5.out.2.2.2.alone (.inl H3.out.2.1.cells) hs6)) (H5.out.1 w6 ((Keeps.grows (Grows.refl _)).alone (.inl H5.out.2.1.cells) hs6)))))
  have HB6 := Lib.hid (Below.trans HB5.out (hs6.below HB5.out.size (fun k hk e => by omega)))
  clear ho6 hc6 hs6
  have hm7 := Whole.made w6 5 #[.int .u8 97, .int .u8 98]
  obtain ⟨w7, hrun7, hheld7, hbel7, _⟩ := conv_mark (n := 2) (c := 2) hm7
  have hg7 : Grows w6 w7 := Below.trans ((Below.refl _ _).alloc (Nat.le_refl _) _) hbel7
  have H7 := Lib.hid (And.intro (hheld7.sl [97, 98] rfl rfl) hg7)
  clear hm7 hheld7 hbel7 hg7
  go_wp2_with (fail)
  have hw8 := Whole.made w7 23 #[.slice (some ⟨w6.heap.size, 0, none⟩) 2 2]
  have g8 := grows_alloc w7 (.cells #[.slice (some ⟨w6.heap.size, 0, none⟩) 2 2] 23)
  have hsame := same_lists A3 m3 c3 [[97, 98]] _ 1 1 [[97, 98]] _ (H6.out.2.2.1.grow (Grows.trans H7.out.2 g8)) (lists_lit (hs := [(some ⟨w6.heap.size, 0, none⟩, 2, 2)]) hw8 rfl rfl (fun i h l hh hl => by
    rcases i with _ | i
    · simp only [List.getElem?_cons_zero, Option.some.injEq] at hh hl
      subst hh hl
      exact H7.out.1.grow g8
    · simp at hh)) (by have h : 1 = m3 := H6.out.2.2.1.len; omega) (by omega)
  rw [decide_eq_true rfl] at hsame
  refine hsame.mono ?_
  clear hsame
  rintro e w9 ⟨rfl, hg9⟩
  have H9 := Lib.hid (Grows.trans (Grows.trans H7.out.2 g8) hg9)
  clear hw8 g8 hg9 hrun7
  have hm10 := Whole.made w9 5 #[.int .u8 99, .int .u8 100]
  obtain ⟨w10, hrun10, hheld10, hbel10, _⟩ := conv_mark (n := 2) (c := 2) hm10
  have hg10 : Grows w9 w10 := Below.trans ((Below.refl _ _).alloc (Nat.le_refl _) _) hbel10
  have H10 := Lib.hid (And.intro (hheld10.sl [99, 100] rfl rfl) hg10)
  clear hm10 hheld10 hbel10 hg10
  go_wp2_with (fail)
  have hw11 := Whole.made w10 23 #[.slice (some ⟨w9.heap.size, 0, none⟩) 2 2]
  have g11 := grows_alloc w10 (.cells #[.slice (some ⟨w9.heap.size, 0, none⟩) 2 2] 23)
  have hsame := same_lists A5 m5 c5 [[99, 100]] _ 1 1 [[99, 100]] _ (H6.out.2.2.2.grow (Grows.trans H9.out (Grows.trans H10.out.2 g11))) (lists_lit (hs := [(some ⟨w9.heap.size, 0, none⟩, 2, 2)]) hw11 rfl rfl (fun i h l hh hl => by
    rcases i with _ | i
    · simp only [List.getElem?_cons_zero, Option.some.injEq] at hh hl
      subst hh hl
      exact H10.out.1.grow g11
    · simp at hh)) (by have h : 1 = m5 := H6.out.2.2.2.len; omega) (by omega)
  rw [decide_eq_true rfl] at hsame
  refine hsame.mono ?_
  clear hsame
  rintro e w12 ⟨rfl, hg12⟩
  have H12 := Lib.hid (Grows.trans H9.out (Grows.trans (Grows.trans H10.out.2 g11) hg12))
  have hstr := run_string (H6.out.1.grow H12.out)
  clear hw11 g11 hg12 hrun10
  go_wp2_with (fail)
  refine (left_cut w12 (H6.out.2.1.grow H12.out)).mono ?_
  rintro e w12' ⟨rfl, rfl⟩
  go_wp2_with (fail)
  refine (size_cut w12 (H6.out.2.1.grow H12.out)).mono ?_
  rintro e w12' ⟨rfl, rfl⟩
  go_wp2_with (fail)
  refine (rest_cut w12 (Nat.le_trans HB6.out.size H12.out.size) (H6.out.2.1.grow H12.out)).mono ?_
  rintro e w13 ⟨rfl, ho13, hc13, hs13⟩
  have HB13 := Lib.hid (Below.trans HB6.out (Below.trans (Below.mono H12.out HB6.out.size) (hs13.below (Nat.le_trans HB6.out.size H12.out.size) (fun k hk e => by omega))))
  clear ho13 hc13 hs13 hstr
  go_wp2_with (fail)
  go_ret
  exact ⟨rfl, HB13.out⟩
end Go.Proofs.Ytlcpbkbojjpfaaa
