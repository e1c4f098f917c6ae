/-
  FrameStill holds of any bytes: what is handed in is as it was, and what comes out is new memory; no condition.
-/
import Derived.Test.YtfefghnincjlgaaHead2
import Derived.Test.YtfefghnincjlgaaFrameFacts
import Derived.Test.YtfefghnincjlgaaCame
namespace Go.Proofs.Ytfefghnincjlgaa
open Go.ChangeShapes Go.WideShapes Go.ChangeAt Go.RowKit

set_option maxRecDepth 100000 in
set_option maxHeartbeats 1000000 in
theorem still_out {w : World} (A : Option Addr) (n c : Nat) (bs : List UInt8) (hc : Came w A n c bs) (hf : ¬ (1 ≤ n ∧ n ≤ 8192)) :
    Calls Try.prog 7 #[.slice A n c] w fun e w' => e = .returned (.bool true) ∧ Below w.heap.size w w' := by
  have hl := hc.bytes.len
  have hreach := hc.reach
  have hcap := hc.cap
  have HC := Lib.hid hc.sl
  clear hc
  go_enter Try.func7, Try.ntmps7
  go_wp2_with (fail)
  refine (head2_any _).mono ?_
  rintro e w1 ⟨rfl, hb1⟩
  have HG1 := Lib.hid (show Grows w w1 from hb1)
  clear hb1
  go_wp2_with (fail)
  refine (put_any A n c bs w1 (HC.out.grow HG1.out) (by unfold maxLen; omega)).mono ?_
  rintro e w2 ⟨A2, m, c2, rfl, hs2, hb2⟩
  have hput : putB bs = [] := by unfold putB; rw [hl, if_neg hf]
  have hm := hs2.len
  rw [hput] at hm
  change 0 = m at hm
  subst hm
  have HG2 := Lib.hid (Grows.trans HG1.out hb2)
  clear hs2 hb2 hput
  go_wp2_with (fail)
  go_ret
  exact ⟨rfl, HG2.out⟩

set_option maxRecDepth 100000 in
set_option maxHeartbeats 2000000 in
theorem still_in {w : World} (A : Option Addr) (n c : Nat) (bs : List UInt8) (hc : Came w A n c bs) (hf : 1 ≤ n ∧ n ≤ 8192) :
    Calls Try.prog 7 #[.slice A n c] w fun e w' => e = .returned (.bool true) ∧ Below w.heap.size w w' := by
  have hl := hc.bytes.len
  have hreach := hc.reach
  have hcap := hc.cap
  have HC := Lib.hid hc.sl
  have hback := first_back bs [] (by omega) (by omega)
  rw [List.append_nil, hl] at hback
  have HBK := Lib.hid hback
  clear hc hback
  have hne : (((n : Int) + 8) == 0) = false := by simp; omega
  go_enter Try.func7, Try.ntmps7
  go_wp2_with (fail)
  refine (head2_any _).mono ?_
  rintro e w1 ⟨rfl, hb1⟩
  have HG1 := Lib.hid (show Grows w w1 from hb1)
  clear hb1
  go_wp2_with (fail)
  refine (put_any A n c bs w1 (HC.out.grow HG1.out) (by unfold maxLen; omega)).mono ?_
  rintro e w2 ⟨A2, m, c2, rfl, hs2, hb2⟩
  have hput : putB bs = frameB bs := by unfold putB; rw [hl, if_pos hf]
  have hm := hs2.len
  rw [hput] at hs2
  rw [hput, frameB_length, hl] at hm
  subst hm
  have HS2 := Lib.hid hs2
  have HG2 := Lib.hid (Grows.trans HG1.out hb2)
  have HX2 := Lib.hid (HC.out.grow (Grows.trans HG1.out hb2))
  have t1 := run_string HX2.out
  have t2 := run_string hs2
  clear hs2 hb2 hput HG1
  go_wp2_with (fail)
  refine (first_own A2 (n + 8) c2 _ w2 HS2.out (by omega)).mono ?_
  rw [HBK.out]
  rintro e w3 ⟨A3, m3, c3, rfl, ho3, hb3⟩
  have hm3 := (Sl.owned ho3).len
  change bs.length = m3 at hm3
  rw [hl] at hm3
  subst hm3
  obtain ⟨g, cap, hform, hg3, _⟩ := ho3.form (by omega)
  injection hform with h1 _ h2
  subst h1 h2
  have HO3 := Lib.hid ho3
  have HB3 := Lib.hid hb3
  clear hb3 t1 t2 ho3
  go_wp2_with (fail)
  go_loopw [10] (fun i wr => ∃ j : Nat, j ≤ n ∧ i = .int .i64 j ∧ (∃ zs : List UInt8, zs.length = n ∧ wr.ownsRow w2.heap.size 5 1 (.slice (some ⟨g, 0, none⟩) n c3) n (zs.map byteV)) ∧ Below w2.heap.size w2 wr) (fun i _ => n - (intOf i).toNat)
  case atStart => exact ⟨0, by omega, rfl, ⟨bs, hl, HO3.out⟩, HB3.out⟩
  case round =>
    obtain ⟨j, hj, rfl, ⟨zs, hzl, ho⟩, hbr⟩ := hrel
    have HOR := Lib.hid ho
    have HBR := Lib.hid hbr
    have HZL := Lib.hid hzl
    clear ho hbr hzl
    by_cases hlt : j < n
    · have hcell : wr.cell? ⟨g, j, none⟩ = some (.int .u8 ((zs.getD j 0).toNat : Nat)) := by
        rw [HOR.out.cellAt _ (by omega), List.getElem?_map, List.getElem?_eq_getElem (by have := HZL.out; omega)]
        simp [byteV, show j < zs.length by have := HZL.out; omega]
      have hfree : wr.frozen? ⟨g, j, none⟩ = false := HOR.out.frozenAt _
      have hbl := (zs.getD j 0).toNat_lt
      generalize hb : (zs.getD j 0).toNat = b at *
      have j0 : (0 : Int) ≤ (j : Int) := by omega
      have j1 : (j : Int) < (n : Int) := by omega
      go_wp2_with (fail)
      go_roundw
      case rel =>
        refine ⟨j + 1, by omega, by go_num, ⟨zs.set j (UInt8.ofNat (b + 1)), by rw [List.length_set]; exact HZL.out, ?_⟩, HBR.out.setCell (by simpa using hg3) _⟩
        have hs := (HOR.out.stored j (byteV (UInt8.ofNat (b + 1)))).1
        rw [List.map_set]
        have hv : Value.int .u8 (((b : Int) + 1) % 256) = byteV (UInt8.ofNat (b + 1)) := byteV_of (by omega)
        rw [← hv] at hs ⊢
        exact hs
      case measure => simp [intOf]; omega
    · obtain rfl : j = n := by omega
      have hs4 := HS2.out.grow HBR.out
      have hx4 := HX2.out.grow HBR.out
      have HG4 := Lib.hid (Grows.trans HG2.out HBR.out)
      have HS4 := Lib.hid hs4
      have HX4 := Lib.hid hx4
      clear hs4 hx4
      go_wp2_with (fail)
      refine (first_any A2 (j + 8) c2 _ wr HS4.out (by omega)).mono ?_
      rw [HBK.out]
      rintro e w5 ⟨A5, m5, c5, rfl, hs5, hb5⟩
      have hm5 := hs5.len
      change bs.length = m5 at hm5
      rw [hl] at hm5
      subst hm5
      have t1 := run_string (HX4.out.grow hb5)
      have t2 := run_string (HS4.out.grow hb5)
      have t3 := run_string hs5
      have HG5 := Lib.hid (Grows.trans HG4.out hb5)
      clear hs5 hb5
      go_wp2_with (fail)
      go_ret
      exact ⟨rfl, HG5.out⟩

theorem still_law {w : World} (A : Option Addr) (n c : Nat) (bs : List UInt8) (hc : Came w A n c bs) :
    Calls Try.prog 7 #[.slice A n c] w fun e w' => e = .returned (.bool true) ∧ Below w.heap.size w w' := by
  by_cases hf : 1 ≤ n ∧ n ≤ 8192
  · exact still_in A n c bs hc hf
  · exact still_out A n c bs hc hf

set_option maxRecDepth 100000 in
theorem frameStill_lifted (os : Os) (started : os.Started) (H : Type) (enc : TypeId × Value → H) :
    ReturnsInHanded {} Try.checked os 7 .any (Rows.frameStillSpec.pre6 enc Try.prog Try.f7 Rows.frameStillRow.domain false) (Rows.frameStillSpec.post enc Try.prog Try.f7 false true false false) := by
  refine lift_law (C := Try.checked) H enc own started (by kernel_rfl) Try.func7
    (ChangeSpec.witness6 (enc := enc) (C := Try.checked) false ⟨#[], #[.slice none 0 0], []⟩ 16 (by kernel_rfl) (by kernel_rfl) (by kernel_rfl) (by kernel_rfl))
    laidOut (of_readable (by kernel_rfl)) rfl Try.underlying4 rfl (fun ds hd => ?_) (fun W base args ds p hval hA hsz => ?_)
  · match ds, hd with
    | [d1], _ => rfl
  · rw [Try.params7] at hA hval hsz
    obtain ⟨v0, vs0, d0, ds0, p0, q0, hargs, rfl, rfl, h0, r0⟩ := trodAll_cons hA
    obtain ⟨rfl, rfl, rfl⟩ := trodAll_nil r0
    obtain rfl : args = #[v0] := by cases args; simp_all
    obtain ⟨A0, n0, c0, xs0, rfl, hx0⟩ := open_bytes Try.underlying22 Try.underlying5 (by kernel_rfl) (by kernel_rfl) (hval 0 22 v0 rfl rfl) h0 hsz (j := 0) rfl rfl
    exact still_law A0 n0 c0 xs0 hx0

theorem frameStill_over : Rows.frameStillRow.holds Try.pinned (OpenSpec.ofChange Rows.frameStillSpec) :=
  OpenClaim.holds_of_wide 7 Try.f7 rfl rfl rfl rfl rfl rfl rfl ⟨rfl, rfl, rfl, rfl, rfl⟩ rfl rfl rfl rfl rfl (by kernel_rfl) Try.func7 (by kernel_rfl)
    (of_decide_eq_true (by kernel_rfl)) (by unfold Func.isWrapper; first | (rw [if_pos (by decide +kernel)]; kernel_rfl) | (rw [if_neg (by decide +kernel)]; exact ⟨rfl, rfl⟩))
    (fun os started H enc _ => frameStill_lifted os started H enc)
theorem frameStill_holds : Rows.FrameStillSaid := frameStill_over
end Go.Proofs.Ytfefghnincjlgaa
