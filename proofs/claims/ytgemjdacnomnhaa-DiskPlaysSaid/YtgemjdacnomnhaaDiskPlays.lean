/-
  Statement DiskPlays: calls of a disk of any size answer as the document says; so do all names, and what files have. All arguments, no condition.
-/
import Derived.Test.YtgemjdacnomnhaaMWb
import Derived.Test.YtgemjdacnomnhaaMC
import Derived.Test.YtgemjdacnomnhaaDkGreat
import Derived.ProofKit
import Derived.ChangeOld
namespace Go.Proofs.Ytgemjdacnomnhaa
open Go.ChangeShapes Go.WideShapes Go.ChangeAt Go.RowKit
set_option linter.unusedSimpArgs false
set_option linter.unusedVariables false
set_option maxHeartbeats 16000000 in
set_option maxRecDepth 100000 in
theorem diskPlays_law (w : World) (most : Int) (hmost : -9223372036854775808 ≤ most ∧ most ≤ 9223372036854775807) (A0 : Option Addr) (n0 c0 : Nat) (os : List O8) (ho : Ops8 w A0 n0 c0 os) :
    Calls Try.prog 3 #[.int .i64 most, .slice A0 n0 c0] w fun e w' => e = .returned (.bool true) ∧ Below w.heap.size w w' := by
  have HO := Lib.hid ho
  have hn0 := ho.top
  clear ho
  go_enter Try.func3, Try.ntmps3
  go_wp2_with (fail)
  refine (head8_any w).mono ?_
  rintro e w0 ⟨rfl, hb0⟩
  have HB0 := Lib.hid hb0
  clear hb0
  go_wp2_with (fail)
  refine (new_any w0 most).mono ?_
  rintro e w1 ⟨d, rfl, hn⟩
  have HN := Lib.hid hn
  clear hn
  go_wp2_with (fail)
  refine (rnew_any w1 most).mono ?_
  rintro e w2 ⟨rfl, hrf, hg2⟩
  have ht := Two.new HN.out HB0.out.size HB0.out hrf hg2
  generalize w1.heap.size = r at ht
  have HT := Lib.hid ht
  have hg8 := great8_any A0 n0 c0 os w2 (HO.out.grow HT.out.low)
  have HG8 := Lib.hid hg8
  clear hg8 HN hrf hg2 ht
  go_wp2_with (fail)
  refine HG8.out.mono ?_
  rintro e w3 (⟨rfl, hg⟩ | ⟨rfl, hn150, hall, hg⟩)
  · have HZ := Lib.hid (HT.out.grow hg)
    clear hg
    go_wp2_with (fail)
    go_ret
    exact ⟨rfl, HZ.out.low⟩
  have HT1 := Lib.hid (HT.out.grow hg)
  have HALL := Lib.hid (And.intro hn150 hall)
  clear hg HT hall
  go_wp2_with (fail)
  go_loopw [8] (fun vi wr => ∃ (j : Nat) (m : Dk) (x : Rf), j ≤ n0 ∧ vi = .int .i64 (j : Nat) ∧ Hid (Two w.heap.size w wr d r (fun _ => False) m x) ∧ Hid (G2 (j + o8all (os.take j)) m x)) (fun i _ => n0 - (intOf i).toNat)
  case atStart => exact ⟨0, Dk.new most, Rf.new most, Nat.zero_le _, rfl, HT1, Lib.hid ((G2.new most).mono (Nat.zero_le _))⟩
  case round =>
    obtain ⟨j, m, x, hj, rfl, HW, HG⟩ := hrel
    clear HT1
    by_cases hlt : j < n0
    · have hlt' : (j : Int) < (n0 : Int) := by omega
      have hj0 : (0 : Int) ≤ (j : Int) := by omega
      obtain ⟨ad, o, p, rfl, hblk, hoi, hat, hcs⟩ := HO.out.spot j hlt
      obtain ⟨q0, q1, q2, q3, q4, q5, q6⟩ := o8_cells (by rw [add_block]; exact hblk) hcs HW.out.low
      have HBD := Lib.hid (show o8len o ≤ 9000 ∧ j ≤ 150 ∧ o8all (os.take j) ≤ 9000 ∧ j + o8all (os.take j) + o8len o + 1 = j + 1 + o8all (os.take (j + 1)) by
        have h1 := o8all_one hoi
        have h2 := o8all_take os (j + 1)
        have h3 := HALL.out
        omega)
      have HLT := Lib.hid hlt
      have hb := both8_any wr HW.out HG.out (by have := HBD.out; omega) o p hat HBD.out.1
      unfold o8V at hb
      have HBO := Lib.hid hb
      clear hblk hoi hat hcs hb
      go_wp2_with (fail)
      refine HBO.out.mono ?_
      rintro e w5 ⟨rfl, ⟨x', ht, hg⟩, _⟩
      have HS := Lib.hid (same8_any w5 ht hg (by have := HBD.out; omega))
      rw [HBD.out.2.2.2] at hg
      obtain ⟨m', hm'⟩ : ∃ m', o8on o m = m' := ⟨_, rfl⟩
      rw [hm'] at ht hg
      have HT5 := Lib.hid ht
      have HG5 := Lib.hid hg
      clear ht hg hm'
      go_wp2_with (fail)
      refine HS.out.mono ?_
      rintro e w6 ⟨rfl, hg6⟩
      have HT6 := Lib.hid (HT5.out.grow hg6)
      clear hg6
      go_wp2_with (fail)
      exact ⟨⟨j + 1, m', x', HLT.out, rfl, HT6, HG5⟩, less_one HLT.out⟩
    · obtain rfl : j = n0 := by omega
      go_wp2_with (fail)
      go_ret
      exact ⟨rfl, HW.out.low⟩

set_option maxRecDepth 100000 in
theorem diskPlays_lifted (os : Os) (started : os.Started) (H : Type) (enc : TypeId × Value → H) :
    ReturnsInHanded {} Try.checked os 3 .any (Rows.diskPlaysSpec.pre6 enc Try.prog Try.f3 Rows.diskPlaysRow.domain false) (Rows.diskPlaysSpec.post enc Try.prog Try.f3 false true false false) := by
  refine lift_law (C := Try.checked) H enc own started (by kernel_rfl) Try.func3
    (ChangeSpec.witness6 (enc := enc) (C := Try.checked) false ⟨#[], #[.int .i64 0, .slice none 0 0], []⟩ 16 (by kernel_rfl) (by kernel_rfl) (by kernel_rfl) (by kernel_rfl))
    laidOut (of_readable (by kernel_rfl)) rfl Try.underlying4 rfl (fun ds hd => ?_) (fun W base args ds p hval hA hsz => ?_)
  · match ds, hd with
    | [d1, d2], _ => rfl
  · rw [Try.params3] at hA hval hsz
    obtain ⟨v0, vs0, d0, ds0, p0, q0, hargs, rfl, rfl, h0, r0⟩ := trodAll_cons hA
    obtain ⟨v1, vs1, d1, ds1, p1, q1, rfl, rfl, rfl, h1, r1⟩ := trodAll_cons r0
    obtain ⟨rfl, rfl, rfl⟩ := trodAll_nil r1
    obtain rfl : args = #[v0, v1] := by cases args; simp_all
    obtain ⟨a0, rfl, _, _, w0⟩ := open_int Try.underlying3 (hval 0 3 v0 rfl rfl) h0
    have b0 := bounds_i64 w0
    obtain ⟨A1, n1, c1, xs1, rfl, hx1⟩ := open_ops8 (hval 1 22 v1 rfl rfl) h1 hsz (j := 1) rfl rfl
    exact diskPlays_law W a0 (by omega) A1 n1 c1 xs1 hx1

theorem diskPlays_over : Rows.diskPlaysRow.holds Try.pinned (OpenSpec.ofChange Rows.diskPlaysSpec) :=
  OpenClaim.holds_of_wide 3 Try.f3 rfl rfl rfl rfl rfl rfl rfl ⟨rfl, rfl, rfl, rfl, rfl⟩ rfl rfl rfl rfl rfl (by kernel_rfl) Try.func3 (by kernel_rfl)
    (of_decide_eq_true (by kernel_rfl)) (by unfold Func.isWrapper; first | (rw [if_pos (by decide +kernel)]; kernel_rfl) | (rw [if_neg (by decide +kernel)]; exact ⟨rfl, rfl⟩))
    (fun os started H enc _ => diskPlays_lifted os started H enc)
theorem diskPlays_holds : Rows.DiskPlaysSaid := diskPlays_over
end Go.Proofs.Ytgemjdacnomnhaa
