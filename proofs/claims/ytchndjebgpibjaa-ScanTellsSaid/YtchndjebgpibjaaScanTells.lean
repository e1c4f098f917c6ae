/-
  ScanTells holds of any bytes and any place: all bodies, how many were passed by, where it ends, and the next one from any place on, are the document's; no condition.
-/
import Derived.Test.YtchndjebgpibjaaNextAny
import Derived.Test.YtchndjebgpibjaaCame
namespace Go.Proofs.Ytchndjebgpibjaa
open Go.ChangeShapes Go.WideShapes Go.ChangeAt Go.RowKit

set_option maxRecDepth 100000 in
set_option maxHeartbeats 4000000 in
theorem tells_law {w : World} (A : Option Addr) (n c : Nat) (bs : List UInt8) (hc : Came w A n c bs) (a : Int) (_ha1 : -9223372036854775808 ≤ a) (_ha2 : a ≤ 9223372036854775807) :
    Calls Try.prog 3 #[.slice A n c, .int .i64 a] w fun e w' => e = .returned (.bool true) ∧ Below w.heap.size w w' := by
  have hreach := hc.reach
  have hcap := hc.cap
  have HC := Lib.hid hc.sl
  clear hc
  by_cases hn : 20000 < n
  · go_enter Try.func3, Try.ntmps3
    go_wp2_with (fail)
    refine (head3_any _).mono ?_
    rintro e w1 ⟨rfl, hb1⟩
    have HG1 := Lib.hid (show Grows w w1 from hb1)
    clear hb1
    go_wp2_with (fail)
    go_ret
    exact ⟨rfl, HG1.out⟩
  · go_enter Try.func3, Try.ntmps3
    go_wp2_with (fail)
    refine (head3_any _).mono ?_
    rintro e w1 ⟨rfl, hb1⟩
    have HG1 := Lib.hid (show Grows w w1 from hb1)
    clear hb1
    go_wp2_with (fail)
    have h1 := all_in A n c bs w1 (HC.out.grow HG1.out) (by omega)
    have h2 := fun w => refScanAll A n c bs w
    have hb := all_end bs.length bs 0 (Nat.le_refl _)
    have hbl := HC.out.len
    generalize allB bs 0 = r at *
    obtain ⟨ts, bad, en, er⟩ := r
    dsimp only at h1 h2 hb
    have hts : ts.length ≤ 140737488351232 := by omega
    refine h1.mono ?_
    clear h1 hb hbl
    rintro e w2 ⟨A2, c2, hh2, rfl, ho2, hbd2, hb2⟩
    have g2 : Grows w1 w2 := hb2
    have HI2 := Lib.hid (items_own rfl ho2 hbd2)
    have HG2 := Lib.hid (Grows.trans HG1.out g2)
    have H2 := Lib.hid h2
    clear ho2 hbd2 hb2 g2 HG1 h2
    go_wp2_with (fail)
    refine (H2.out w2 (HC.out.grow HG2.out) (by omega)).mono ?_
    rintro e w3 ⟨A3, c3, hh3, rfl, ho3, hbd3, hb3⟩
    have g3 : Grows w2 w3 := hb3
    have HI3 := Lib.hid (items_own rfl ho3 hbd3)
    have HJ3 := Lib.hid (HI2.out.grow g3)
    have HG3 := Lib.hid (Grows.trans HG2.out g3)
    clear ho3 hbd3 hb3 g3 HG2 H2 HI2
    go_wp2_with (fail)
    refine (next_any A n c bs a w3 (HC.out.grow HG3.out) (by omega)).mono ?_
    rintro e w4 ⟨A4, m4, c4, x0, x1, e4, y4, n4, rfl, hs4, g4, he4⟩
    have hw4 := Whole.made w4 29 #[.int .i64 (x0 : Nat), .int .i64 (x1 : Nat), .slice A4 m4 c4]
    have k4 := grows_alloc w4 (.cells #[.int .i64 (x0 : Nat), .int .i64 (x1 : Nat), .slice A4 m4 c4] 29)
    have HW4 := Lib.hid hw4
    have HS4 := Lib.hid (hs4.grow k4)
    have HG4 := Lib.hid (Grows.trans HG3.out (Grows.trans g4 k4))
    have HI4 := Lib.hid (HI3.out.grow (Grows.trans g4 k4))
    have HJ4 := Lib.hid (HJ3.out.grow (Grows.trans g4 k4))
    have HE4 := Lib.hid he4
    clear hs4 g4 he4 hw4 k4 HG3 HI3 HJ3
    go_wp2_with (fail)
    refine (refNext_any A n c bs a _ (HC.out.grow HG4.out) (by omega)).mono ?_
    rintro e w5 ⟨A5, m5, c5, z0, z1, e5, y5, n5, rfl, hs5, g5, he5⟩
    have hw5 := Whole.made w5 29 #[.int .i64 (z0 : Nat), .int .i64 (z1 : Nat), .slice A5 m5 c5]
    have k5 := grows_alloc w5 (.cells #[.int .i64 (z0 : Nat), .int .i64 (z1 : Nat), .slice A5 m5 c5] 29)
    have hq := HE4.out.symm.trans he5
    simp only [Prod.mk.injEq] at hq
    obtain ⟨⟨rfl, rfl, rfl⟩, rfl, rfl⟩ := hq
    have HW5 := Lib.hid hw5
    have HX5 := Lib.hid ((Grows.trans g5 k5).whole HW4.out)
    have HS5 := Lib.hid (hs5.grow k5)
    have HT5 := Lib.hid (HS4.out.grow (Grows.trans g5 k5))
    have HG5 := Lib.hid (Grows.trans HG4.out (Grows.trans g5 k5))
    have HI5 := Lib.hid (HI4.out.grow (Grows.trans g5 k5))
    have HJ5 := Lib.hid (HJ4.out.grow (Grows.trans g5 k5))
    clear hs5 g5 he5 hw5 k5 HG4 HI4 HJ4 HW4 HS4 HE4
    go_wp2_with (fail)
    have hsame := same_any A2 ts.length c2 ts A3 ts.length c3 ts _ HJ5.out HI5.out hts hts
    rw [decide_eq_true rfl] at hsame
    refine hsame.mono ?_
    clear hsame
    rintro e w6 ⟨rfl, hb6⟩
    have g6 : Grows _ w6 := hb6
    have hx6 := g6.whole HX5.out
    have hy6 := g6.whole HW5.out
    have x0' := hx6.cell 0
    have x1' := hx6.cell 1
    have x2' := hx6.cell 2
    have y0' := hy6.cell 0
    have y1' := hy6.cell 1
    have y2' := hy6.cell 2
    simp only [List.getElem?_toArray, List.getElem?_cons_zero, List.getElem?_cons_succ] at x0' x1' x2' y0' y1' y2'
    have l5 : w5.heap.size < w6.heap.size := hy6.lt
    have hl1 := Whole.made w6 29 #[.int .i64 (x0 : Nat), .int .i64 (x1 : Nat), .slice A4 m4 c4]
    have k1 := grows_alloc w6 (.cells #[.int .i64 (x0 : Nat), .int .i64 (x1 : Nat), .slice A4 m4 c4] 29)
    have hl2 := Whole.made (w6.alloc (.cells #[.int .i64 (x0 : Nat), .int .i64 (x1 : Nat), .slice A4 m4 c4] 29)) 29 #[.int .i64 (x0 : Nat), .int .i64 (x1 : Nat), .slice A5 m5 c5]
    have k2 := grows_alloc (w6.alloc (.cells #[.int .i64 (x0 : Nat), .int .i64 (x1 : Nat), .slice A4 m4 c4] 29)) (.cells #[.int .i64 (x0 : Nat), .int .i64 (x1 : Nat), .slice A5 m5 c5] 29)
    have hi1 := item_one (k2.whole hl1) (HT5.out.grow (Grows.trans g6 (Grows.trans k1 k2)))
    have hi2 := item_one hl2 (HS5.out.grow (Grows.trans g6 (Grows.trans k1 k2)))
    rw [World.size_alloc] at hi2
    have HA := Lib.hid hi1
    have HB := Lib.hid hi2
    have HG6 := Lib.hid (Grows.trans HG5.out (Grows.trans g6 (Grows.trans k1 k2)))
    clear hb6 g6 hx6 hy6 hl1 k1 hl2 k2 hi1 hi2
    go_wp2_with (fail)
    have hsame := same_any _ 1 1 _ _ 1 1 _ _ HA.out HB.out (by omega) (by omega)
    rw [decide_eq_true rfl] at hsame
    refine hsame.mono ?_
    clear hsame
    rintro e w7 ⟨rfl, hb7⟩
    have HG7 := Lib.hid (Grows.trans HG6.out (show Grows _ w7 from hb7))
    clear hb7
    go_wp2_with (fail)
    go_ret
    exact ⟨rfl, HG7.out⟩

set_option maxRecDepth 100000 in
theorem scanTells_lifted (os : Os) (started : os.Started) (H : Type) (enc : TypeId × Value → H) :
    ReturnsInHanded {} Try.checked os 3 .any (Rows.scanTellsSpec.pre6 enc Try.prog Try.f3 Rows.scanTellsRow.domain false) (Rows.scanTellsSpec.post enc Try.prog Try.f3 false true false false) := by
  refine lift_law (C := Try.checked) H enc own started (by kernel_rfl) Try.func3
    (ChangeSpec.witness6 (enc := enc) (C := Try.checked) false ⟨#[], #[.slice none 0 0, .int .i64 0], []⟩ 16 (by kernel_rfl) (by kernel_rfl) (by kernel_rfl) (by kernel_rfl))
    laidOut (of_readable (by kernel_rfl)) rfl Try.underlying4 rfl (fun ds hd => ?_) (fun W base args ds p hval hA hsz => ?_)
  · match ds, hd with
    | [d1, d2], _ => rfl
  · rw [Try.params3] at hA hval hsz
    obtain ⟨v0, vs0, d0, ds0, p0, q0, hargs, rfl, rfl, h0, r0⟩ := trodAll_cons hA
    obtain ⟨v1, vs1, d1, ds1, p1, q1, rfl, rfl, rfl, h1, r1⟩ := trodAll_cons r0
    obtain ⟨rfl, rfl, rfl⟩ := trodAll_nil r1
    obtain rfl : args = #[v0, v1] := by cases args; simp_all
    obtain ⟨A0, n0, c0, xs0, rfl, hx0⟩ := open_bytes Try.underlying22 Try.underlying5 (by kernel_rfl) (by kernel_rfl) (hval 0 22 v0 rfl rfl) h0 hsz (j := 0) rfl rfl
    obtain ⟨a1, rfl, _, _, w1⟩ := open_int Try.underlying3 (hval 1 3 v1 rfl rfl) h1
    have b1 := bounds_i64 w1
    exact tells_law A0 n0 c0 xs0 hx0 a1 b1.1 b1.2

theorem scanTells_over : Rows.scanTellsRow.holds Try.pinned (OpenSpec.ofChange Rows.scanTellsSpec) :=
  OpenClaim.holds_of_wide 3 Try.f3 rfl rfl rfl rfl rfl rfl rfl ⟨rfl, rfl, rfl, rfl, rfl⟩ rfl rfl rfl rfl rfl (by kernel_rfl) Try.func3 (by kernel_rfl)
    (of_decide_eq_true (by kernel_rfl)) (by unfold Func.isWrapper; first | (rw [if_pos (by decide +kernel)]; kernel_rfl) | (rw [if_neg (by decide +kernel)]; exact ⟨rfl, rfl⟩))
    (fun os started H enc _ => scanTells_lifted os started H enc)
theorem scanTells_holds : Rows.ScanTellsSaid := scanTells_over
end Go.Proofs.Ytchndjebgpibjaa
