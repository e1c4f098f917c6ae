/-
  Statement DiskMoves: a file that is moved has what it had, under the other name alone; one that had it is gone; so much is free again. Any two slices of bytes, no condition.
-/
import Derived.Test.YtimkhlonklnddaaDkMv
import Derived.Test.YtimkhlonklnddaaCame
import Derived.ProofKit
import Derived.ChangeOld
namespace Go.Proofs.Ytimkhlonklnddaa
open Go.ChangeShapes Go.WideShapes Go.ChangeAt Go.RowKit
set_option linter.unusedSimpArgs false
set_option linter.unusedVariables false

open Mv
theorem Came.block {W : World} {A : Option Addr} {n c : Nat} {bs : List UInt8} (h : Came W A n c bs) : ∀ ad, A = some ad → bs ≠ [] → ad.block < W.heap.size := by
  intro ad hA hne
  have hl := h.sl.len
  have hpos : 0 < n := by
    rcases Nat.eq_zero_or_pos n with h0 | h0
    · exact absurd (List.eq_nil_of_length_eq_zero (by omega)) hne
    · exact h0
  obtain ⟨ad', hA', hb, _⟩ := h.bytes.spot hpos
  rw [hA] at hA'
  injection hA' with hA'
  rw [hA']
  exact hb
set_option maxHeartbeats 16000000 in
set_option maxRecDepth 100000 in
theorem diskMoves_law (w : World) (A0 : Option Addr) (n0 c0 : Nat) (xs : List UInt8) (hx : Came w A0 n0 c0 xs) (A1 : Option Addr) (n1 c1 : Nat) (ys : List UInt8) (hy : Came w A1 n1 c1 ys) :
    Calls Try.prog 10 #[.slice A0 n0 c0, .slice A1 n1 c1] w fun e w' => e = .returned (.bool true) ∧ Below w.heap.size w w' := by
  have hl0 := hx.sl.len
  have hl1 := hy.sl.len
  have HX := Lib.hid (And.intro hx.sl (And.intro hl0 hx.block))
  have HY := Lib.hid (And.intro hy.sl (And.intro hl1 hy.block))
  have hn0 : n0 ≤ 140737488355328 := by have := hx.cap; have := hx.reach; omega
  have hn1 : n1 ≤ 140737488355328 := by have := hy.cap; have := hy.reach; omega
  clear hx hy hl0 hl1
  go_enter Try.func10, Try.ntmps10
  go_wp2_with (fail)
  refine (head8_any w).mono ?_
  rintro e w0 ⟨rfl, hb0⟩
  have HB0 := Lib.hid hb0
  clear hb0
  go_wp2_with (fail)
  refine (new_any w0 1048576).mono ?_
  rintro e w1 ⟨d, rfl, hn⟩
  have HD := Lib.hid (show DkIn w.heap.size w w1 d (fun _ => False) (Dk.new 1048576) from DkIn.new hn HB0.out.size HB0.out (fun k h => h.elim))
  clear hn
  have hsum : IntKind.i64.wrap ((n0 : Int) + (n1 : Int)) = (n0 : Int) + n1 := IntWalk.i64_in _ (by omega)
  by_cases hgr : n0 + n1 ≤ 9000
  · have hgr' : ¬ ((n0 : Int) + (n1 : Int) > 9000) := by omega
    have HG := Lib.hid (And.intro hgr (show xs.length + ys.length ≤ 9000 by rw [HX.out.2.1, HY.out.2.1]; exact hgr))
    clear hgr
    go_wp2_with (fail)
    refine (create_in [120] HD.out (DkOk.new 1048576) (by omega) (by decide) (show ((Dk.new 1048576).create [120]).2 = 0 by kernel_rfl) (show ((Dk.new 1048576).create [120]).1 = V1 from rfl)).mono ?_
    rintro e w2 ⟨rfl, hd, hs⟩
    have HD2 := Lib.hid hd
    clear hd hs HD
    have HD := HD2
    clear HD2
    go_wp2_with (fail)
    refine (create_in [121] HD.out V1ok (by omega) (by decide) (show (V1.create [121]).2 = 0 by kernel_rfl) (show (V1.create [121]).1 = V2 from rfl)).mono ?_
    rintro e w3 ⟨rfl, hd, hs⟩
    have HD2 := Lib.hid hd
    clear hd hs HD
    have HD := HD2
    clear HD2
    go_wp2_with (fail)
    refine (append_in [120] HD.out V2ok (by omega) (by decide) (HX.out.1.grow HD.out.low) (fun ad e h => .inl (HX.out.2.2 ad e h)) (by have := HG.out.1; omega) (snd_of (e3 xs ys HG.out.2)) (fst_of (e3 xs ys HG.out.2))).mono ?_
    rintro e w4 ⟨rfl, hd, hs⟩
    have HD2 := Lib.hid hd
    clear hd hs HD
    have HD := HD2
    clear HD2
    go_wp2_with (fail)
    refine (append_in [121] HD.out (V3ok xs ys HG.out.2) (by have := HG.out.2; omega) (by decide) (HY.out.1.grow HD.out.low) (fun ad e h => .inl (HY.out.2.2 ad e h)) (by have := HG.out.1; omega) (snd_of (e4 xs ys HG.out.2)) (fst_of (e4 xs ys HG.out.2))).mono ?_
    rintro e w5 ⟨rfl, hd, hs⟩
    have HD2 := Lib.hid hd
    clear hd hs HD
    have HD := HD2
    clear HD2
    go_wp2_with (fail)
    refine (rename_in [120] [121] HD.out (V4ok xs ys HG.out.2) (by have := HG.out.2; omega) (by decide) (by decide) (snd_of (e5 xs ys)) (fst_of (e5 xs ys))).mono ?_
    rintro e w6 ⟨rfl, hd, hs⟩
    have HD2 := Lib.hid hd
    clear hd hs HD
    have HD := HD2
    clear HD2
    go_wp2_with (fail)
    refine (read_in [121] 0 n0 HD.out (V5ok xs ys HG.out.2) (by have := HG.out; have := HX.out.2.1; omega) (by decide) (by omega) (by have := HG.out.1; omega) (show (V5 xs ys).read [121] 0 n0 = (some xs, 0) by rw [← HX.out.2.1]; exact e5r xs ys)).mono ?_
    rintro e w7 ⟨rfl, hr, hg⟩
    have hlx := HX.out.2.1
    rw [hlx] at hr
    have HR := Lib.hid (And.intro (show Sl w7 (some ⟨w6.heap.size, 0, none⟩) n0 n0 xs from Sl.owned hr) (HD.out.grow hg))
    clear hr hg
    rw [hlx]
    clear hlx
    go_wp2_with (fail)
    refine (size_in [120] HR.out.2 (by decide) (e5s xs ys)).mono ?_
    rintro e w8 ⟨rfl, rfl⟩
    have hs1 := run_string HR.out.1
    have hs2 := run_string (HX.out.1.grow HR.out.2.low)
    have hu := used_in HR.out.2
    rw [V5u xs ys HG.out.2, HX.out.2.1] at hu
    have HU := Lib.hid hu
    clear hu
    go_wp2_with (fail)
    refine HU.out.mono ?_
    rintro e w9 ⟨rfl, rfl⟩
    have hli := list_in HR.out.2 (V5ok xs ys HG.out.2) (by have := HG.out.2; omega)
    rw [V5l xs ys] at hli
    have HLI := Lib.hid hli
    clear hli hs1 hs2
    go_wp2_with (fail)
    refine HLI.out.mono ?_
    rintro e w10 ⟨LA, lc, rfl, _, hgx⟩
    have HR2 := Lib.hid (HR.out.2.grow hgx)
    clear hgx
    go_wp2_with (fail)
    refine (remove_in [121] HR2.out (V5ok xs ys HG.out.2) (by have := HG.out.2; omega) (by decide) (snd_of (e6 xs ys)) (fst_of (e6 xs ys))).mono ?_
    rintro e w11 ⟨rfl, hd, hs⟩
    have HD2 := Lib.hid hd
    clear hd hs
    have hu := used_in HD2.out
    rw [V6u xs ys HG.out.2] at hu
    have HU2 := Lib.hid hu
    clear hu
    go_wp2_with (fail)
    refine HU2.out.mono ?_
    rintro e w12 ⟨rfl, rfl⟩
    go_wp2_with (fail)
    go_ret
    exact ⟨rfl, HD2.out.low⟩
  · have hgr' : (n0 : Int) + (n1 : Int) > 9000 := by omega
    clear hgr
    go_wp2_with (fail)
    go_ret
    exact ⟨rfl, HD.out.low⟩

set_option maxRecDepth 100000 in
theorem diskMoves_lifted (os : Os) (started : os.Started) (H : Type) (enc : TypeId × Value → H) :
    ReturnsInHanded {} Try.checked os 10 .any (Rows.diskMovesSpec.pre6 enc Try.prog Try.f10 Rows.diskMovesRow.domain false) (Rows.diskMovesSpec.post enc Try.prog Try.f10 false true false false) := by
  refine lift_law (C := Try.checked) H enc own started (by kernel_rfl) Try.func10
    (ChangeSpec.witness6 (enc := enc) (C := Try.checked) false ⟨#[], #[.slice none 0 0, .slice none 0 0], []⟩ 16 (by kernel_rfl) (by kernel_rfl) (by kernel_rfl) (by kernel_rfl))
    laidOut (of_readable (by kernel_rfl)) rfl Try.underlying4 rfl (fun ds hd => ?_) (fun W base args ds p hval hA hsz => ?_)
  · match ds, hd with
    | [d1, d2], _ => rfl
  · rw [Try.params10] at hA hval hsz
    obtain ⟨v0, vs0, d0, ds0, p0, q0, hargs, rfl, rfl, h0, r0⟩ := trodAll_cons hA
    obtain ⟨v1, vs1, d1, ds1, p1, q1, rfl, rfl, rfl, h1, r1⟩ := trodAll_cons r0
    obtain ⟨rfl, rfl, rfl⟩ := trodAll_nil r1
    obtain rfl : args = #[v0, v1] := by cases args; simp_all
    obtain ⟨A0, n0, c0, xs0, rfl, hx0⟩ := open_bytes Try.underlying30 Try.underlying5 (by kernel_rfl) (by kernel_rfl) (hval 0 30 v0 rfl rfl) h0 hsz (j := 0) rfl rfl
    obtain ⟨A1, n1, c1, xs1, rfl, hx1⟩ := open_bytes Try.underlying30 Try.underlying5 (by kernel_rfl) (by kernel_rfl) (hval 1 30 v1 rfl rfl) h1 hsz (j := 1) rfl rfl
    exact diskMoves_law W A0 n0 c0 xs0 hx0 A1 n1 c1 xs1 hx1

theorem diskMoves_over : Rows.diskMovesRow.holds Try.pinned (OpenSpec.ofChange Rows.diskMovesSpec) :=
  OpenClaim.holds_of_wide 10 Try.f10 rfl rfl rfl rfl rfl rfl rfl ⟨rfl, rfl, rfl, rfl, rfl⟩ rfl rfl rfl rfl rfl (by kernel_rfl) Try.func10 (by kernel_rfl)
    (of_decide_eq_true (by kernel_rfl)) (by unfold Func.isWrapper; first | (rw [if_pos (by decide +kernel)]; kernel_rfl) | (rw [if_neg (by decide +kernel)]; exact ⟨rfl, rfl⟩))
    (fun os started H enc _ => diskMoves_lifted os started H enc)
theorem diskMoves_holds : Rows.DiskMovesSaid := diskMoves_over
end Go.Proofs.Ytimkhlonklnddaa
