/-
  SumZero holds of any number and any bytes: with a table of zeros a sum tells just the sum that it went on from, moved away byte by byte; no condition.
-/
import Derived.Test.YtefempiefkcccaaHead
import Derived.Test.YtefempiefkcccaaLists
import Derived.Test.YtefempiefkcccaaFrame
import Derived.Test.YtefempiefkcccaaSeat
namespace Go.Proofs.Ytefempiefkcccaa
open Go.ChangeShapes Go.WideShapes Go.ChangeAt Go.RowKit

theorem runN_none (bs : List UInt8) (m : Nat) : runN (fun _ => 0) m bs = m / 256 ^ bs.length := by
  induction bs generalizing m with
  | nil => simp [runN]
  | cons c bs ih =>
    show runN (fun _ => 0) (nextN (fun _ => 0) m c) bs = _
    rw [ih]
    unfold nextN
    rw [Nat.xor_zero, Nat.div_div_eq_div_mul, List.length_cons, Nat.pow_succ, Nat.mul_comm]
theorem zero_end (s k : Nat) (hs : s < 4294967296) (bs : List UInt8) (h : k = bs.length ∨ k = 4 ∧ 4 ≤ bs.length) : onN (fun _ => 0) s bs = 4294967295 - (4294967295 - s) / 256 ^ k := by
  unfold onN
  rw [runN_none]
  rcases h with rfl | ⟨rfl, h⟩
  · rfl
  · have h1 : 256 ^ 4 ≤ 256 ^ bs.length := Nat.pow_le_pow_right (by omega) h
    rw [Nat.div_eq_of_lt (by omega), Nat.div_eq_of_lt (by omega)]
theorem zero_next (m k : Nat) : m / 256 ^ (k + 1) = m / 256 ^ k / 256 := by
  rw [Nat.div_div_eq_div_mul, Nat.pow_succ]

set_option maxRecDepth 100000 in
set_option maxHeartbeats 1000000 in
theorem zero_law (s : Nat) (hs : s < 4294967296) (A : Option Addr) (n c : Nat) (bs : List UInt8) (w : World) (hcame : Came w A n c bs) :
    Calls Try.prog 8 #[.int .u32 (s : Nat), .slice A n c] w fun e w' => e = .returned (.bool true) ∧ Below w.heap.size w w' := by
  have hz := zeroT
  have hreach := hcame.reach
  have hcap := hcame.cap
  have HC := Lib.hid hcame
  clear hcame
  by_cases hbig : 9000 < n
  · go_enter Try.func8, Try.ntmps8
    go_wp2_with (fail)
    refine (head_any _).mono ?_
    rintro e w0 ⟨rfl, hb0⟩
    have HB0 := Lib.hid hb0
    clear hb0
    go_wp2_with (fail)
    go_ret
    exact ⟨rfl, HB0.out⟩
  · go_enter Try.func8, Try.ntmps8
    go_wp2_with (fail)
    refine (head_any _).mono ?_
    rintro e w0 ⟨rfl, hb0⟩
    have HB0 := Lib.hid hb0
    clear hb0
    have Hw := Lib.hid (Whole.made w0 23 (arrV fun _ => 0))
    go_wp2_with (fail)
    go_loop [7, 8] (fun v i => ∃ k : Nat, k ≤ n ∧ k ≤ 4 ∧ i = .int .i64 k ∧ v = .int .u32 ((4294967295 - s) / 256 ^ k : Nat)) (fun _ i => 4 - (intOf i).toNat)
    case atStart => exact ⟨0, by omega, by omega, rfl, by rw [turn_u32 s hs]; simp⟩
    case round =>
      obtain ⟨k, hk, hk4, rfl, rfl⟩ := hrel
      have hnext := zero_next (4294967295 - s) k
      have hend := zero_end s k hs bs
      have hb : (4294967295 - s) / 256 ^ k < 4294967296 := Nat.lt_of_le_of_lt (Nat.div_le_self _ _) (by omega)
      generalize hm : (4294967295 - s) / 256 ^ k = m at *
      have HN := Lib.hid hnext
      have HE := Lib.hid hend
      clear hnext hend hm
      by_cases h1 : k < n
      · by_cases h2 : k < 4
        · go_wp2_with (fail)
          go_round
          case rel => exact ⟨k + 1, by omega, by omega, by go_num, by rw [HN.out]; rfl⟩
          case measure => simp [intOf]; omega
        · obtain rfl : k = 4 := by omega
          have hE := HE.out (Or.inr ⟨rfl, by have := HC.out.bytes.len; omega⟩)
          have hE' := Lib.hid hE
          have hT := turn_u32 m hb
          clear HN HE hE
          go_wp2_with (refine list_row (by rfl) 23 _ rfl w0.heap.size rfl 23 _ _ Hw.out Try.underlying23 rfl (by rw [arrV_size]; exact sizeT) ?_)
          refine (on_any (fun _ => 0) (fun _ _ => by omega) s hs A n c bs _ ?_ (by unfold maxLen; omega)).mono ?_
          · exact ((HC.out.bytes.below HB0.out).wider HB0.out.size).alloc (Nat.le_refl _) _ |>.wider (by simp)
          rintro e w2 ⟨rfl, hb2⟩
          have HB2 := Lib.hid hb2
          clear hb2
          rw [hE'.out]
          go_wp2_with (fail)
          go_ret
          exact ⟨rfl, (HB0.out.alloc HB0.out.size _).trans (HB2.out.mono (by have := HB0.out.size; simp; omega))⟩
      · obtain rfl : k = n := by omega
        have hE := HE.out (Or.inl (by have := HC.out.bytes.len; omega))
        have hE' := Lib.hid hE
        have hT := turn_u32 m hb
        clear HN HE hE
        go_wp2_with (refine list_row (by rfl) 23 _ rfl w0.heap.size rfl 23 _ _ Hw.out Try.underlying23 rfl (by rw [arrV_size]; exact sizeT) ?_)
        refine (on_any (fun _ => 0) (fun _ _ => by omega) s hs A k c bs _ ?_ (by unfold maxLen; omega)).mono ?_
        · exact ((HC.out.bytes.below HB0.out).wider HB0.out.size).alloc (Nat.le_refl _) _ |>.wider (by simp)
        rintro e w2 ⟨rfl, hb2⟩
        have HB2 := Lib.hid hb2
        clear hb2
        rw [hE'.out]
        go_wp2_with (fail)
        go_ret
        exact ⟨rfl, (HB0.out.alloc HB0.out.size _).trans (HB2.out.mono (by have := HB0.out.size; simp; omega))⟩

set_option maxRecDepth 100000 in
theorem zero_lifted (os : Os) (started : os.Started) (H : Type) (enc : TypeId × Value → H) :
    ReturnsInHanded {} Try.checked os 8 .any (Rows.sumZeroSpec.pre6 enc Try.prog Try.f8 Rows.sumZeroRow.domain false) (Rows.sumZeroSpec.post enc Try.prog Try.f8 false true false false) := by
  refine lift_law (C := Try.checked) H enc own started (by kernel_rfl) Try.func8
    (ChangeSpec.witness6 (enc := enc) (C := Try.checked) false ⟨#[], #[.int .u32 0, .slice none 0 0], []⟩ 8 (by kernel_rfl) (by kernel_rfl) (by kernel_rfl) (by kernel_rfl))
    laidOut (of_readable (by kernel_rfl)) rfl Try.underlying4 rfl (fun ds hd => ?_) (fun W base args ds p hval hA hsz => ?_)
  · match ds, hd with
    | [d1, d2], _ => rfl
  · rw [Try.params8] at hA hval hsz
    obtain ⟨v0, vs0, d0, ds0, p0, q0, hargs, rfl, rfl, h0, r0⟩ := trodAll_cons hA
    obtain ⟨v1, vs1, d1, ds1, p1, q1, rfl, rfl, rfl, h1, r1⟩ := trodAll_cons r0
    obtain ⟨rfl, rfl, rfl⟩ := trodAll_nil r1
    obtain rfl : args = #[v0, v1] := by cases args; simp_all
    obtain ⟨a0, rfl, _, _, w0⟩ := open_int Try.underlying22 (hval 0 22 v0 rfl rfl) h0
    obtain ⟨A, n, c, bs, rfl, hcame⟩ := open_bytes Try.underlying24 Try.underlying5 (by kernel_rfl) (by kernel_rfl) (hval 1 24 v1 rfl rfl) h1 hsz (j := 1) rfl rfl
    have b0 := bounds_u32 w0
    obtain ⟨s, rfl⟩ := Int.eq_ofNat_of_zero_le b0.1
    exact zero_law s (by omega) A n c bs W hcame

theorem zero_over : Rows.sumZeroRow.holds Try.pinned (OpenSpec.ofChange Rows.sumZeroSpec) :=
  OpenClaim.holds_of_wide 8 Try.f8 rfl rfl rfl rfl rfl rfl rfl ⟨rfl, rfl, rfl, rfl, rfl⟩ rfl rfl rfl rfl rfl (by kernel_rfl) Try.func8 (by kernel_rfl)
    (of_decide_eq_true (by kernel_rfl)) (by unfold Func.isWrapper; first | (rw [if_pos (by decide +kernel)]; kernel_rfl) | (rw [if_neg (by decide +kernel)]; exact ⟨rfl, rfl⟩))
    (fun os started H enc _ => zero_lifted os started H enc)
theorem sumZero_holds : Rows.SumZeroSaid := zero_over
end Go.Proofs.Ytefempiefkcccaa
