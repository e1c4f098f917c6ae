/-
  Statement DiskReads: what is read of any file, at any place, is the document's. All arguments, no condition.
-/
import Derived.Test.YtgemjdacnomnhaaMWb
import Derived.Test.YtgemjdacnomnhaaMC
import Derived.Test.YtgemjdacnomnhaaDkGreat
import Derived.Test.YtgemjdacnomnhaaText
import Derived.ProofKit
import Derived.ChangeOld
namespace Go.Proofs.Ytgemjdacnomnhaa
open Go.ChangeShapes Go.WideShapes Go.ChangeAt Go.RowKit
set_option linter.unusedSimpArgs false
set_option linter.unusedVariables false
set_option maxHeartbeats 16000000 in
set_option maxRecDepth 100000 in
theorem diskReads_law (w : World) (A0 : Option Addr) (n0 c0 : Nat) (os : List O8) (ho : Ops8 w A0 n0 c0 os) (nm : List UInt8) (hnm : nm.length ≤ 9223372036854775807) (y : Int) (hy : -9223372036854775808 ≤ y ∧ y ≤ 9223372036854775807) (k : Int) (hk : -9223372036854775808 ≤ k ∧ k ≤ 9223372036854775807) :
    Calls Try.prog 4 #[.slice A0 n0 c0, .string ⟨nm.toArray⟩, .int .i64 y, .int .i64 k] w fun e w' => e = .returned (.bool true) ∧ Below w.heap.size w w' := by
  obtain ⟨nb, hnb⟩ : ∃ s : ByteArray, (⟨nm.toArray⟩ : ByteArray) = s := ⟨_, rfl⟩
  have hns : nb.size = nm.length := by rw [← hnb]; simp [ByteArray.size]
  rw [hnb]
  have HNB := Lib.hid hnb
  obtain ⟨nl, hnl⟩ : ∃ nl, nm.length = nl := ⟨_, rfl⟩
  rw [hnl] at hns hnm
  have HNL := Lib.hid hnl
  clear hnb hnl
  have HO := Lib.hid ho
  have hn0 := ho.top
  clear ho
  go_enter Try.func4, Try.ntmps4
  go_wp2_with (fail)
  refine (head8_any w).mono ?_
  rintro e w0 ⟨rfl, hb0⟩
  have HB0 := Lib.hid hb0
  clear hb0
  go_wp2_with (fail)
  refine (new_any w0 3000).mono ?_
  rintro e w1 ⟨d, rfl, hn⟩
  have HN := Lib.hid hn
  clear hn
  go_wp2_with (fail)
  refine (rnew_any w1 3000).mono ?_
  rintro e w2 ⟨rfl, hrf, hg2⟩
  have ht := Two.new HN.out HB0.out.size HB0.out hrf hg2
  generalize w1.heap.size = r at ht
  have HT := Lib.hid ht
  have hg8 := great8_any A0 n0 c0 os w2 (HO.out.grow HT.out.low)
  have HG8 := Lib.hid hg8
  clear hg8 HN hrf hg2 ht
  go_wp2_with (fail)
  refine HG8.out.mono ?_
  rintro e w3 (⟨rfl, hg⟩ | ⟨rfl, hn150, hall, hg⟩)
  · have HZ := Lib.hid (HT.out.grow hg)
    clear hg
    go_wp2_with (fail)
    go_ret
    exact ⟨rfl, HZ.out.low⟩
  have HT1 := Lib.hid (HT.out.grow hg)
  have HALL := Lib.hid (And.intro hn150 hall)
  clear hg HT hall
  by_cases h900 : nl ≤ 900
  rotate_left 1
  · have h900' : (nl : Int) > 900 := by omega
    go_wp2_with (fail)
    go_ret
    exact ⟨rfl, HT1.out.low⟩
  have h900' : ¬ ((nl : Int) > 900) := by omega
  go_wp2_with (fail)
  go_loopw [12] (fun vi wr => ∃ (j : Nat) (m : Dk) (x : Rf), j ≤ n0 ∧ vi = .int .i64 (j : Nat) ∧ Hid (Two w.heap.size w wr d r (fun _ => False) m x) ∧ Hid (G2 (j + o8all (os.take j)) m x)) (fun i _ => n0 - (intOf i).toNat)
  case atStart => exact ⟨0, Dk.new 3000, Rf.new 3000, Nat.zero_le _, rfl, HT1, Lib.hid ((G2.new 3000).mono (Nat.zero_le _))⟩
  case round =>
    obtain ⟨j, m, x, hj, rfl, HW, HG⟩ := hrel
    clear HT1
    by_cases hlt : j < n0
    · have hlt' : (j : Int) < (n0 : Int) := by omega
      have hj0 : (0 : Int) ≤ (j : Int) := by omega
      obtain ⟨ad, o, p, rfl, hblk, hoi, hat, hcs⟩ := HO.out.spot j hlt
      obtain ⟨q0, q1, q2, q3, q4, q5, q6⟩ := o8_cells (by rw [add_block]; exact hblk) hcs HW.out.low
      have HBD := Lib.hid (show o8len o ≤ 9000 ∧ j ≤ 150 ∧ o8all (os.take j) ≤ 9000 ∧ j + o8all (os.take j) + o8len o + 1 = j + 1 + o8all (os.take (j + 1)) by
        have h1 := o8all_one hoi
        have h2 := o8all_take os (j + 1)
        have h3 := HALL.out
        omega)
      have HLT := Lib.hid hlt
      have hb := both8_any wr HW.out HG.out (by have := HBD.out; omega) o p hat HBD.out.1
      unfold o8V at hb
      have HBO := Lib.hid hb
      clear hblk hoi hat hcs hb
      go_wp2_with (fail)
      refine HBO.out.mono ?_
      rintro e w5 ⟨rfl, ⟨x', ht, hg⟩, _⟩
      rw [HBD.out.2.2.2] at hg
      obtain ⟨m', hm'⟩ : ∃ m', o8on o m = m' := ⟨_, rfl⟩
      rw [hm'] at ht hg
      have HT5 := Lib.hid ht
      have HG5 := Lib.hid hg
      clear ht hg hm'
      go_wp2_with (fail)
      exact ⟨⟨j + 1, m', x', HLT.out, rfl, HT5, HG5⟩, less_one HLT.out⟩
    · obtain rfl : j = n0 := by omega
      have hK : j + o8all (os.take j) ≤ 100000 := by
        have h2 := o8all_take os j
        have h3 := HALL.out
        omega
      have hnl : nm.length ≤ 1000000 := by rw [HNL.out]; omega
      obtain ⟨⟨v, bb⟩, hv⟩ : ∃ q, m.size nm = q := ⟨_, rfl⟩
      obtain ⟨⟨rb, ec⟩, hrd⟩ : ∃ q, m.read nm y k = q := ⟨_, rfl⟩
      have htw : ∀ w', Grows wr w' → Two w.heap.size w w' d r (fun _ => False) m x := fun w' hg => HW.out.grow hg
      have HS1 := Lib.hid (fun w' hg => (htw w' hg).sized hnl hv)
      have HS2 := Lib.hid (fun w' hg => (htw w' hg).sizedR HG.out hK hv)
      have HQ1 := Lib.hid (fun w' hg => (htw w' hg).reads HG.out hK y k hnl hy hk hrd)
      have HQ2 := Lib.hid (fun w' hg => (htw w' hg).readsR HG.out hK y k hy hk hrd)
      unfold GotTo at HQ1 HQ2
      dsimp only at HQ1 HQ2
      generalize rb.getD [] = bs at HQ1 HQ2
      obtain ⟨L, hL⟩ : ∃ L, bs.length = L := ⟨_, rfl⟩
      rw [hL] at HQ1 HQ2
      rw [HNB.out] at HS1 HS2 HQ1 HQ2
      clear hv hrd hL htw hK hnl hy hk
      go_wp2_with (fail)
      refine (HQ1.out wr (Grows.refl _)).mono ?_
      rintro e wc ⟨A1, k1, rfl, hs1, hgc⟩
      have HGC := Lib.hid (And.intro hs1 hgc)
      clear hgc hs1
      go_wp2_with (fail)
      refine (HQ2.out wc HGC.out.2).mono ?_
      rintro e wd ⟨A2, k2, rfl, hs2, hgd⟩
      have HGD := Lib.hid (And.intro (Sl.grow hgd HGC.out.1) (And.intro hs2 (Grows.trans HGC.out.2 hgd)))
      clear hgd hs2
      go_wp2_with (fail)
      refine (HS1.out wd HGD.out.2.2).mono ?_
      rintro e we ⟨rfl, rfl⟩
      go_wp2_with (fail)
      refine (HS2.out wd HGD.out.2.2).mono ?_
      rintro e we ⟨rfl, hge⟩
      have r1 := run_string (Sl.grow hge HGD.out.1)
      have r2 := run_string (Sl.grow hge HGD.out.2.1)
      have HGE := Lib.hid (Grows.trans HGD.out.2.2 hge)
      generalize (⟨bs.toArray⟩ : ByteArray) = sb at r1 r2
      clear hge
      go_wp2_with (fail)
      go_ret
      exact ⟨rfl, (HW.out.grow HGE.out).low⟩

set_option maxHeartbeats 4000000 in
set_option maxRecDepth 100000 in
theorem diskReads_lifted (os : Os) (started : os.Started) (H : Type) (enc : TypeId × Value → H) :
    ReturnsInHanded {} Try.checked os 4 .any (Rows.diskReadsSpec.pre6 enc Try.prog Try.f4 Rows.diskReadsRow.domain false) (Rows.diskReadsSpec.post enc Try.prog Try.f4 false true false false) := by
  refine lift_law (C := Try.checked) H enc own started (by kernel_rfl) Try.func4
    (ChangeSpec.witness6 (enc := enc) (C := Try.checked) false ⟨#[], #[.slice none 0 0, .string ⟨#[]⟩, .int .i64 0, .int .i64 0], []⟩ 16 (by kernel_rfl) (by kernel_rfl) (by kernel_rfl) (by kernel_rfl))
    laidOut (of_readable (by kernel_rfl)) rfl Try.underlying4 rfl (fun ds hd => ?_) (fun W base args ds p hval hA hsz => ?_)
  · match ds, hd with
    | [d1, d2, d3, d4], _ => rfl
  · rw [Try.params4] at hA hval hsz
    obtain ⟨v0, vs0, d0, ds0, p0, q0, hargs, rfl, rfl, h0, r0⟩ := trodAll_cons hA
    obtain ⟨v1, vs1, d1, ds1, p1, q1, rfl, rfl, rfl, h1, r1⟩ := trodAll_cons r0
    obtain ⟨v2, vs2, d2, ds2, p2, q2, rfl, rfl, rfl, h2, r2⟩ := trodAll_cons r1
    obtain ⟨v3, vs3, d3, ds3, p3, q3, rfl, rfl, rfl, h3, r3⟩ := trodAll_cons r2
    obtain ⟨rfl, rfl, rfl⟩ := trodAll_nil r3
    obtain rfl : args = #[v0, v1, v2, v3] := by cases args; simp_all
    obtain ⟨A0, n0, c0, xs0, rfl, hx0⟩ := open_ops8 (hval 0 22 v0 rfl rfl) h0 hsz (j := 0) rfl rfl
    obtain ⟨l1, rfl, hl1⟩ := open_text Try.underlying9 (hval 1 9 v1 rfl rfl) h1
    obtain ⟨a2, rfl, _, _, w2⟩ := open_int Try.underlying3 (hval 2 3 v2 rfl rfl) h2
    have b2 := bounds_i64 w2
    obtain ⟨a3, rfl, _, _, w3⟩ := open_int Try.underlying3 (hval 3 3 v3 rfl rfl) h3
    have b3 := bounds_i64 w3
    exact diskReads_law W A0 n0 c0 xs0 hx0 l1 hl1 a2 b2 a3 b3

theorem diskReads_over : Rows.diskReadsRow.holds Try.pinned (OpenSpec.ofChange Rows.diskReadsSpec) :=
  OpenClaim.holds_of_wide 4 Try.f4 rfl rfl rfl rfl rfl rfl rfl ⟨rfl, rfl, rfl, rfl, rfl⟩ rfl rfl rfl rfl rfl (by kernel_rfl) Try.func4 (by kernel_rfl)
    (of_decide_eq_true (by kernel_rfl)) (by unfold Func.isWrapper; first | (rw [if_pos (by decide +kernel)]; kernel_rfl) | (rw [if_neg (by decide +kernel)]; exact ⟨rfl, rfl⟩))
    (fun os started H enc _ => diskReads_lifted os started H enc)
theorem diskReads_holds : Rows.DiskReadsSaid := diskReads_over
end Go.Proofs.Ytgemjdacnomnhaa
