/-
  FrameCut holds of any bytes and any place: a frame that is cut is ErrShort, wherever it is cut; no condition.
-/
import Derived.Test.YtfefghnincjlgaaHead2
import Derived.Test.YtfefghnincjlgaaFrameFacts
import Derived.Test.YtfefghnincjlgaaCame
namespace Go.Proofs.Ytfefghnincjlgaa
open Go.ChangeShapes Go.WideShapes Go.ChangeAt Go.RowKit

set_option maxRecDepth 100000 in
set_option maxHeartbeats 1000000 in
theorem cut_law {w : World} (A : Option Addr) (n c : Nat) (bs : List UInt8) (hc : Came w A n c bs) (v : Nat) (hv : v < 65536) :
    Calls Try.prog 6 #[.slice A n c, .int .u16 (v : Nat)] w fun e w' => e = .returned (.bool true) ∧ Below w.heap.size w w' := by
  have hl := hc.bytes.len
  have hreach := hc.reach
  have hcap := hc.cap
  have HC := Lib.hid hc.sl
  clear hc
  by_cases hf : 1 ≤ n ∧ n ≤ 8192
  · go_enter Try.func6, Try.ntmps6
    go_wp2_with (fail)
    refine (head2_any _).mono ?_
    rintro e w1 ⟨rfl, hb1⟩
    have HG1 := Lib.hid (show Grows w w1 from hb1)
    clear hb1
    go_wp2_with (fail)
    refine (put_any A n c bs w1 (HC.out.grow HG1.out) (by unfold maxLen; omega)).mono ?_
    rintro e w2 ⟨A2, m, c2, rfl, hs2, hb2⟩
    have hput : putB bs = frameB bs := by unfold putB; rw [hl, if_pos hf]
    have hm := hs2.len
    rw [hput] at hs2
    rw [hput, frameB_length, hl] at hm
    subst hm
    have HS2 := Lib.hid hs2
    have HG2 := Lib.hid (Grows.trans HG1.out hb2)
    have hne : ((((n + 8 : Nat) : Int)) == 0) = false := by simp; omega
    have hrem : ((v : Nat) : Int).tmod ((n + 8 : Nat) : Int) = ((v % (n + 8) : Nat) : Int) := by rw [Int.tmod_eq_emod_of_nonneg (by omega)]; rfl
    have hj : v % (n + 8) < n + 8 := Nat.mod_lt _ (by omega)
    have hc2 := hs2.cap
    have hz := first_short_cut bs (by omega) (by omega) (v % (n + 8)) (by omega)
    generalize v % (n + 8) = j at *
    generalize hk : n + 8 = k at *
    have hj0 : (0 : Int) ≤ (j : Int) := by omega
    have hj1 : (j : Int) ≤ (c2 : Int) := by omega
    have hk0 : ¬ ((k : Int) = 0) := by omega
    have hj2 : j ≤ 140737488351232 := by omega
    have HK := Lib.hid hk
    have HZ := Lib.hid hz
    clear hs2 hb2 hput HG1 hk hz
    go_wp2_with (fail)
    refine (first_any A2 j c2 _ w2 (HS2.out.first (by omega)) hj2).mono ?_
    rw [HZ.out]
    rintro e w3 ⟨A3, m3, c3, rfl, hs3, hb3⟩
    have hm3 := hs3.len
    change 0 = m3 at hm3
    subst hm3
    have HG3 := Lib.hid (Grows.trans HG2.out hb3)
    clear hs3 hb3
    go_wp2_with (fail)
    go_ret
    exact ⟨rfl, HG3.out⟩
  · go_enter Try.func6, Try.ntmps6
    go_wp2_with (fail)
    refine (head2_any _).mono ?_
    rintro e w1 ⟨rfl, hb1⟩
    have HG1 := Lib.hid (show Grows w w1 from hb1)
    clear hb1
    go_wp2_with (fail)
    refine (put_any A n c bs w1 (HC.out.grow HG1.out) (by unfold maxLen; omega)).mono ?_
    rintro e w2 ⟨A2, m, c2, rfl, hs2, hb2⟩
    have hput : putB bs = [] := by unfold putB; rw [hl, if_neg hf]
    have hm := hs2.len
    rw [hput] at hm
    change 0 = m at hm
    subst hm
    have HG2 := Lib.hid (Grows.trans HG1.out hb2)
    clear hs2 hb2 hput
    go_wp2_with (fail)
    go_ret
    exact ⟨rfl, HG2.out⟩

set_option maxRecDepth 100000 in
theorem frameCut_lifted (os : Os) (started : os.Started) (H : Type) (enc : TypeId × Value → H) :
    ReturnsInHanded {} Try.checked os 6 .any (Rows.frameCutSpec.pre6 enc Try.prog Try.f6 Rows.frameCutRow.domain false) (Rows.frameCutSpec.post enc Try.prog Try.f6 false true false false) := by
  refine lift_law (C := Try.checked) H enc own started (by kernel_rfl) Try.func6
    (ChangeSpec.witness6 (enc := enc) (C := Try.checked) false ⟨#[], #[.slice none 0 0, .int .u16 0], []⟩ 16 (by kernel_rfl) (by kernel_rfl) (by kernel_rfl) (by kernel_rfl))
    laidOut (of_readable (by kernel_rfl)) rfl Try.underlying4 rfl (fun ds hd => ?_) (fun W base args ds p hval hA hsz => ?_)
  · match ds, hd with
    | [d1, d2], _ => rfl
  · rw [Try.params6] at hA hval hsz
    obtain ⟨v0, vs0, d0, ds0, p0, q0, hargs, rfl, rfl, h0, r0⟩ := trodAll_cons hA
    obtain ⟨v1, vs1, d1, ds1, p1, q1, rfl, rfl, rfl, h1, r1⟩ := trodAll_cons r0
    obtain ⟨rfl, rfl, rfl⟩ := trodAll_nil r1
    obtain rfl : args = #[v0, v1] := by cases args; simp_all
    obtain ⟨A0, n0, c0, xs0, rfl, hx0⟩ := open_bytes Try.underlying22 Try.underlying5 (by kernel_rfl) (by kernel_rfl) (hval 0 22 v0 rfl rfl) h0 hsz (j := 0) rfl rfl
    obtain ⟨a1, rfl, _, _, w1⟩ := open_int Try.underlying31 (hval 1 31 v1 rfl rfl) h1
    have b1 := bounds_u16 w1
    obtain ⟨s1, rfl⟩ := Int.eq_ofNat_of_zero_le b1.1
    exact cut_law A0 n0 c0 xs0 hx0 s1 (by omega)

theorem frameCut_over : Rows.frameCutRow.holds Try.pinned (OpenSpec.ofChange Rows.frameCutSpec) :=
  OpenClaim.holds_of_wide 6 Try.f6 rfl rfl rfl rfl rfl rfl rfl ⟨rfl, rfl, rfl, rfl, rfl⟩ rfl rfl rfl rfl rfl (by kernel_rfl) Try.func6 (by kernel_rfl)
    (of_decide_eq_true (by kernel_rfl)) (by unfold Func.isWrapper; first | (rw [if_pos (by decide +kernel)]; kernel_rfl) | (rw [if_neg (by decide +kernel)]; exact ⟨rfl, rfl⟩))
    (fun os started H enc _ => frameCut_lifted os started H enc)
theorem frameCut_holds : Rows.FrameCutSaid := frameCut_over
end Go.Proofs.Ytfefghnincjlgaa
