/-
  A directory's Many.
-/
import Derived.Test.YtadgbobemmfjoaaKsDPut
namespace Go.Proofs.Ytadgbobemmfjoaa
open Go.RowKit
set_option linter.unusedVariables false
set_option linter.unusedSimpArgs false

def sumR (R : Rows) (i : Nat) : Nat := ((List.range i).map fun r => (R r).flatten.length).sum
theorem sumR_step (R : Rows) (i : Nat) : sumR R (i + 1) = sumR R i + (R i).flatten.length := by
  unfold sumR
  rw [List.range_succ, List.map_append, List.sum_append]
  simp
theorem sumR_mono (R : Rows) : ∀ (n i : Nat), sumR R i ≤ sumR R (i + n)
  | 0, i => Nat.le_refl _
  | n + 1, i => by
    have h1 := sumR_mono R n i
    have h2 := sumR_step R (i + n)
    rw [← Nat.add_assoc]
    omega
theorem KsOk.sum {R : Rows} {L : List Pl} (h : KsOk R L) : sumR R 64 = L.length := by
  rw [← h.perm.length_eq]
  unfold flatR sumR
  rw [List.length_flatMap]
theorem KsOk.sumLe {R : Rows} {L : List Pl} (h : KsOk R L) {i : Nat} (hi : i ≤ 64) : sumR R i ≤ L.length := by
  have h1 := sumR_mono R (64 - i) i
  rw [show i + (64 - i) = 64 by omega, h.sum] at h1
  exact h1
set_option maxHeartbeats 1000000 in
theorem kmany_any {d : Nat} {own : Nat → Prop} {L : List Pl} (w : World) (h : DirIn w d own L) (hn : L.length < 400000) :
    Calls Try.prog 22 #[.pointer (some ⟨d, 0, none⟩)] w fun e w' => e = .returned (.int .i64 (L.length : Nat)) ∧ w = w' := by
  obtain ⟨⟨R, G, S, vs, cs, hM, hK⟩, hkeys⟩ := h
  have HC := Lib.hid (show ∀ r, r < 64 → w.cell? ⟨d, r * 2 + 1, none⟩ = some (.int .i64 ((R r).flatten.length : Nat)) from fun r hr => by rw [hM.blk.cell]; exact hM.word1 r hr)
  have HK := Lib.hid hK
  clear hM hK hkeys
  go_enter Try.func22, Try.ntmps22
  go_wp2_with (fail)
  go_loop [3, 5] (fun vn vi => ∃ (i : Nat), i ≤ 64 ∧ vi = .int .i64 (i : Int) ∧ vn = .int .i64 (sumR R i : Int)) (fun _ vi => 64 - (intOf vi).toNat)
  case atStart => exact ⟨0, Nat.zero_le _, rfl, rfl⟩
  case round =>
    obtain ⟨i, hi, rfl, rfl⟩ := hrel
    by_cases hlt : i < 64
    · have hc := HC.out i hlt
      have hs := sumR_step R i
      have hb := HK.out.sumLe (i := i + 1) (by omega)
      obtain ⟨x, hx⟩ : ∃ x, (R i).flatten.length = x := ⟨_, rfl⟩
      rw [hx] at hc hs
      obtain ⟨a, ha⟩ : ∃ a, sumR R i = a := ⟨_, rfl⟩
      obtain ⟨b, hb2⟩ : ∃ b, sumR R (i + 1) = b := ⟨_, rfl⟩
      rw [ha, hb2] at hs
      rw [hb2] at hb
      rw [ha]
      have HB := Lib.hid hb2
      have hab : (a : Int) + (x : Int) = (b : Int) := by omega
      have k0 : (0 : Int) ≤ (i : Int) := by omega
      have k1 : (i : Int) < 64 := by omega
      obtain ⟨y1, y2⟩ := wrapK (x := (b : Int)) (by omega) (by omega)
      clear hs hb ha hb2 hx
      go_wp2_with (fail)
      go_round
      case rel => exact ⟨i + 1, by omega, by first | rfl | go_num, by rw [HB.out]⟩
      case measure => simp [intOf]; omega
    · go_wp2_with (fail)
      go_ret
      obtain rfl : i = 64 := by omega
      exact ⟨congrArg (fun x : Nat => Ending.returned (.int .i64 (x : Int))) HK.out.sum, rfl⟩
end Go.Proofs.Ytadgbobemmfjoaa
