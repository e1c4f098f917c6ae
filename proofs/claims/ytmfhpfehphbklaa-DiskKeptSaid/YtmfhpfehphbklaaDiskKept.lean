/-
  Statement DiskKept: what was synced, under a name that was, is there behind any Boot, as it was; what was not is a beginning of what was appended. All arguments, no condition.
-/
import Derived.Test.YtmfhpfehphbklaaDkKp
import Derived.Test.YtmfhpfehphbklaaDkHead
import Derived.Test.YtmfhpfehphbklaaDkIn
import Derived.ProofKit
import Derived.ChangeOld
namespace Go.Proofs.Ytmfhpfehphbklaa
open Go.ChangeShapes Go.WideShapes Go.ChangeAt Go.RowKit
set_option linter.unusedSimpArgs false
set_option linter.unusedVariables false

open Kp
theorem ext_take (xs ys : List UInt8) (z : Nat) : ((⟨xs.toArray⟩ : ByteArray) ++ ⟨ys.toArray⟩).extract 0 z = ⟨((xs ++ ys).take z).toArray⟩ := by
  apply ByteArray.ext
  simp [ByteArray.data_extract, ByteArray.data_append]
set_option maxHeartbeats 16000000 in
set_option maxRecDepth 100000 in
theorem diskKept_law (w : World) (A0 : Option Addr) (n0 c0 : Nat) (xs : List UInt8) (hx : Came w A0 n0 c0 xs) (A1 : Option Addr) (n1 c1 : Nat) (ys : List UInt8) (hy : Came w A1 n1 c1 ys) (A2 : Option Addr) (n2 c2 : Nat) (os : List O8) (ho : Ops8 w A2 n2 c2 os)
    (dirs : Int) (hdirs : -9223372036854775808 ≤ dirs ∧ dirs ≤ 9223372036854775807) (A4 : Option Addr) (n4 c4 : Nat) (bs : List Int) (hb : Ints w A4 n4 c4 bs) (hbb : ∀ x ∈ bs, -9223372036854775808 ≤ x ∧ x ≤ 9223372036854775807) :
    Calls Try.prog 9 #[.slice A0 n0 c0, .slice A1 n1 c1, .slice A2 n2 c2, .int .i64 dirs, .slice A4 n4 c4] w fun e w' => e = .returned (.bool true) ∧ Below w.heap.size w w' := by
  have hl0 := hx.sl.len
  have hl1 := hy.sl.len
  have HX := Lib.hid (And.intro hx.sl (And.intro hl0 hx.sl.block))
  have HY := Lib.hid (And.intro hy.sl (And.intro hl1 hy.sl.block))
  have HB := Lib.hid (And.intro hb (And.intro hbb hb.block))
  have HO := Lib.hid ho
  have hn0 : n0 ≤ 140737488355328 := by have := hx.cap; have := hx.reach; omega
  have hn1 : n1 ≤ 140737488355328 := by have := hy.cap; have := hy.reach; omega
  have hn2 := ho.top
  have hlo := ho.len
  have HLO := Lib.hid hlo
  clear hx hy hl0 hl1 hb hbb ho hlo
  go_enter Try.func9, Try.ntmps9
  go_wp2_with (fail)
  refine (head8_any w).mono ?_
  rintro e w0 ⟨rfl, hb0⟩
  have HB0 := Lib.hid hb0
  clear hb0
  go_wp2_with (fail)
  refine (new_any w0 1048576).mono ?_
  rintro e w1 ⟨d, rfl, hn⟩
  have HD := Lib.hid (show DkIn w.heap.size w w1 d (fun _ => False) (Dk.new 1048576) from DkIn.new hn HB0.out.size HB0.out (fun k h => h.elim))
  clear hn
  have hsum : IntKind.i64.wrap ((n0 : Int) + (n1 : Int)) = (n0 : Int) + n1 := IntWalk.i64_in _ (by omega)
  by_cases hgr : n0 + n1 ≤ 9000
  · have hgr' : ¬ ((n0 : Int) + (n1 : Int) > 9000) := by omega
    have HG := Lib.hid (And.intro hgr (show xs.length + ys.length ≤ 9000 by rw [HX.out.2.1, HY.out.2.1]; exact hgr))
    clear hgr
    have hg8 := great8_any A2 n2 c2 os w1 (HO.out.grow HD.out.low)
    have HG8 := Lib.hid hg8
    clear hg8
    go_wp2_with (fail)
    refine HG8.out.mono ?_
    rintro e w2 (⟨rfl, hg⟩ | ⟨rfl, hn150, hall, hg⟩)
    · have HZ := Lib.hid (HD.out.grow hg)
      clear hg
      go_wp2_with (fail)
      go_ret
      exact ⟨rfl, HZ.out.low⟩
    have HD1 := Lib.hid (HD.out.grow hg)
    have HALL := Lib.hid (And.intro hn150 hall)
    clear hg HD hall
    have HD := HD1
    clear HD1
    by_cases h900 : n4 ≤ 900
    rotate_left 1
    · have h900' : ¬ ((n4 : Int) ≤ 900) := by omega
      have h900'' : (n4 : Int) > 900 := by omega
      go_wp2_with (fail)
      go_ret
      exact ⟨rfl, HD.out.low⟩
    have h900' : ¬ ((n4 : Int) > 900) := by omega
    go_wp2_with (fail)
    refine (create_in [120] HD.out (DkOk.new 1048576) (by omega) (by decide) (show ((Dk.new 1048576).create [120]).2 = 0 by kernel_rfl) (show ((Dk.new 1048576).create [120]).1 = V1 from rfl)).mono ?_
    rintro e w3 ⟨rfl, hd, hs⟩
    have HD2 := Lib.hid hd
    clear hd hs HD
    have HD := HD2
    clear HD2
    go_wp2_with (fail)
    refine (append_in [120] HD.out V1ok (by omega) (by decide) (HX.out.1.grow HD.out.low) (fun ad e h => .inl (HX.out.2.2 ad e h)) (by have := HG.out.1; omega) (snd_of (e2 xs ys HG.out.2)) (fst_of (e2 xs ys HG.out.2))).mono ?_
    rintro e w4 ⟨rfl, hd, hs⟩
    have HD2 := Lib.hid hd
    clear hd hs HD
    have HD := HD2
    clear HD2
    go_wp2_with (fail)
    refine (sync_in [120] HD.out (V2ok xs ys HG.out.2) (by have := HG.out.2; omega) (by decide) (snd_of (e3 xs)) (fst_of (e3 xs))).mono ?_
    rintro e w5 ⟨rfl, hd, hs⟩
    have HD2 := Lib.hid hd
    clear hd hs HD
    have HD := HD2
    clear HD2
    go_wp2_with (fail)
    refine (syncDir_in HD.out (V3ok xs ys HG.out.2) (by have := HG.out.2; omega) (snd_of (e4 xs)) (fst_of (e4 xs))).mono ?_
    rintro e w6 ⟨rfl, hd, hs⟩
    have HD2 := Lib.hid hd
    clear hd hs HD
    have HD := HD2
    clear HD2
    go_wp2_with (fail)
    refine (append_in [120] HD.out (V4ok xs ys HG.out.2) (by have := HG.out.2; omega) (by decide) (HY.out.1.grow HD.out.low) (fun ad e h => .inl (HY.out.2.2 ad e h)) (by have := HG.out.1; omega) (snd_of (e5 xs ys HG.out.2)) (fst_of (e5 xs ys HG.out.2))).mono ?_
    rintro e w7 ⟨rfl, hd, hs⟩
    have HD2 := Lib.hid hd
    clear hd hs HD
    have HD := HD2
    clear HD2
    go_wp2_with (fail)
    have HOK0 := Lib.hid (V5ok xs ys HG.out.2)
    have HKI0 := Lib.hid (V5i xs ys)
    generalize V5 xs ys = m5 at HD HOK0 HKI0
    go_loopw [13] (fun vi wr => ∃ (j : Nat) (m : Dk), j ≤ n2 ∧ vi = .int .i64 (j : Nat) ∧ Hid (DkIn w.heap.size w wr d (fun _ => False) m) ∧ Hid (DkOk (9001 + j + o8all (os.take j)) m) ∧ Hid (KI m xs ys)) (fun i _ => n2 - (intOf i).toNat)
    case atStart => exact ⟨0, m5, by omega, rfl, HD, Lib.hid (HOK0.out.mono (by omega)), HKI0⟩
    case round =>
      obtain ⟨j, m, hj, rfl, HD3, HOK3, HKI3⟩ := hrel
      clear HD HOK0 HKI0
      by_cases hlt : j < n2
      · have hlt' : (j : Int) < (n2 : Int) := by omega
        have hj0 : (0 : Int) ≤ (j : Int) := by omega
        obtain ⟨ad, o, p, rfl, hblk, hoi, hat, hcs⟩ := HO.out.spot j hlt
        obtain ⟨q0, q1, q2, q3, q4, q5, q6⟩ := o8_cells (by rw [add_block]; exact hblk) hcs HD3.out.low
        have HC := Lib.hid (And.intro hoi hat)
        have HDA := Lib.hid (fun obj => HD3.out.grow (grows_alloc wr obj))
        have HBD := Lib.hid (show o.name.length ≤ 9000 ∧ o.b.length ≤ 9000 ∧ 9001 + j + o8all (os.take j) ≤ 30000 ∧ o8all (os.take (j + 1)) = o8all (os.take j) + o8len o by
          have h1 := o8all_one hoi
          have h2 := o8all_take os (j + 1)
          have h3 := HALL.out
          unfold o8len at h1 ⊢
          omega)
        have HLT := Lib.hid hlt
        clear hblk hoi hat hcs
        by_cases hn : o.name = [120]
        · have hb : (o.name == [120]) = true := by rw [beq_iff_eq]; exact hn
          have HN := Lib.hid hn
          clear hn
          by_cases h6 : o.what = 6
          · go_wp2_with (fail)
            refine (syncDir_in (HDA.out _) HOK3.out (by have := HBD.out; omega) rfl rfl).mono ?_
            rintro e w9 ⟨rfl, hd, hs⟩
            have HD9 := Lib.hid hd
            clear hd hs
            go_wp2_with (fail)
            all_goals exact ⟨⟨j + 1, _, HLT.out, rfl, HD9, Lib.hid (HOK3.out.syncDir.mono (by have := HBD.out; omega)), Lib.hid HKI3.out.syncDir⟩, less_one HLT.out⟩
          by_cases h8 : o.what = 8
          · go_wp2_with (fail)
            refine (cut_in o.n (HDA.out _)).mono ?_
            rintro e w9 ⟨rfl, hd, hs⟩
            have HD9 := Lib.hid hd
            clear hd hs
            go_wp2_with (fail)
            all_goals exact ⟨⟨j + 1, _, HLT.out, rfl, HD9, Lib.hid ((HOK3.out.cuts o.n HC.out.2.n.2).mono (by have := HBD.out; omega)), Lib.hid (HKI3.out.cuts o.n)⟩, less_one HLT.out⟩
          go_wp2_with (fail)
          all_goals exact ⟨⟨j + 1, m, HLT.out, rfl, HDA.out _, Lib.hid (HOK3.out.mono (by have := HBD.out; omega)), HKI3⟩, less_one HLT.out⟩
        · have hb : (o.name == [120]) = false := by rw [beq_eq_false_iff_ne]; exact hn
          have HN := Lib.hid hn
          clear hn
          by_cases h0 : o.what = 0
          · go_wp2_with (fail)
            refine (create_in o.name (HDA.out _) HOK3.out (by have := HBD.out; omega) (by have := HBD.out; omega) rfl rfl).mono ?_
            rintro e w9 ⟨rfl, hd, hs⟩
            have HD9 := Lib.hid hd
            clear hd hs
            go_wp2_with (fail)
            all_goals exact ⟨⟨j + 1, _, HLT.out, rfl, HD9, Lib.hid ((HOK3.out.create o.name).mono (by have := HBD.out; omega)), Lib.hid (HKI3.out.create HN.out)⟩, less_one HLT.out⟩
          by_cases h1 : o.what = 1
          · go_wp2_with (fail)
            refine (append_in o.name (HDA.out _) HOK3.out (by have := HBD.out; omega) (by have := HBD.out; omega) (HC.out.2.b.grow (HDA.out _).low) (fun ad e h => .inl (HC.out.2.b.block ad e h)) (by have h1 := HC.out.2.b.len; have := HBD.out; omega) rfl rfl).mono ?_
            rintro e w9 ⟨rfl, hd, hs⟩
            have HD9 := Lib.hid hd
            clear hd hs
            go_wp2_with (fail)
            all_goals exact ⟨⟨j + 1, _, HLT.out, rfl, HD9, Lib.hid ((HOK3.out.append o.name o.b).mono (by have := HBD.out; unfold o8len at this; omega)), Lib.hid (HKI3.out.append HN.out o.b)⟩, less_one HLT.out⟩
          by_cases h6 : o.what = 6
          · go_wp2_with (fail)
            refine (syncDir_in (HDA.out _) HOK3.out (by have := HBD.out; omega) rfl rfl).mono ?_
            rintro e w9 ⟨rfl, hd, hs⟩
            have HD9 := Lib.hid hd
            clear hd hs
            go_wp2_with (fail)
            all_goals exact ⟨⟨j + 1, _, HLT.out, rfl, HD9, Lib.hid (HOK3.out.syncDir.mono (by have := HBD.out; omega)), Lib.hid HKI3.out.syncDir⟩, less_one HLT.out⟩
          by_cases h8 : o.what = 8
          · go_wp2_with (fail)
            refine (cut_in o.n (HDA.out _)).mono ?_
            rintro e w9 ⟨rfl, hd, hs⟩
            have HD9 := Lib.hid hd
            clear hd hs
            go_wp2_with (fail)
            all_goals exact ⟨⟨j + 1, _, HLT.out, rfl, HD9, Lib.hid ((HOK3.out.cuts o.n HC.out.2.n.2).mono (by have := HBD.out; omega)), Lib.hid (HKI3.out.cuts o.n)⟩, less_one HLT.out⟩
          go_wp2_with (fail)
          all_goals exact ⟨⟨j + 1, m, HLT.out, rfl, HDA.out _, Lib.hid (HOK3.out.mono (by have := HBD.out; omega)), HKI3⟩, less_one HLT.out⟩
      · obtain rfl : j = n2 := by omega
        have HK := Lib.hid (show 9001 + j + o8all (os.take j) ≤ 30000 by
          have h2 := o8all_take os j
          have h3 := HALL.out
          omega)
        go_wp2_with (fail)
        refine (boot_in dirs HD3.out HOK3.out (by have := HK.out; omega) (HB.out.1.grow HD3.out.low) HB.out.2.1 (fun ad e h => .inl (HB.out.2.2 ad e h))).mono ?_
        rintro e w9 ⟨rfl, hd, hs⟩
        obtain ⟨z, hz1, hz2, hsz, hrd⟩ := HKI3.out.boot dirs bs
        have HBT := Lib.hid (And.intro hd (And.intro (HOK3.out.boot dirs bs) (And.intro hsz hrd)))
        have hlen : ((xs ++ ys).take z).length = z := by rw [List.length_take, List.length_append]; omega
        have HZ := Lib.hid (And.intro hlen (And.intro hz1 hz2))
        have hz3 : z ≤ 9000 := by have := HG.out; omega
        have hz4 : n0 ≤ z := by have := HX.out.2.1; omega
        have hz6 : z ≤ xs.length + ys.length := hz2
        have hz7 : (z : Int) ≤ (xs.length : Int) + (ys.length : Int) := by omega
        have hz5 : z ≤ n0 + n1 := by have := HX.out.2.1; have := HY.out.2.1; omega
        clear hd hs hsz hrd hlen hz1 hz2
        go_wp2_with (fail)
        refine (size_in [120] HBT.out.1 (by decide) HBT.out.2.2.1).mono ?_
        rintro e w10 ⟨rfl, rfl⟩
        go_wp2_with (fail)
        refine (read_in [120] 0 z HBT.out.1 HBT.out.2.1 (by have := HK.out; omega) (by decide) (by omega) (by omega) HBT.out.2.2.2).mono ?_
        rintro e w11 ⟨rfl, hr, hg⟩
        rw [HZ.out.1] at hr
        have HR := Lib.hid (And.intro (show Sl w11 (some ⟨w9.heap.size, 0, none⟩) z z ((xs ++ ys).take z) from Sl.owned hr) (HBT.out.1.grow hg))
        rw [HZ.out.1]
        clear hr hg
        have hsx := run_string (HX.out.1.grow HR.out.2.low)
        have hsy := run_string (HY.out.1.grow HR.out.2.low)
        have hcat : ¬ (9223372036854775807 < xs.length + ys.length) := by have := HG.out.2; omega
        have HSA := Lib.hid (And.intro hsx hsy)
        go_wp2_with (fail)
        clear hsx hsy
        refine q_region mixed (by kernel_rfl) ?_
        iterate 26
          (refine q_op' (v := ?_) (a' := ?_) (by rfl) ?_ ?_ ?_
           rotate_left 2
           · intro w' hC
             have z1 := run_string (HR.out.1.grow hC)
             go_simp
             try with_reducible rfl
           · simp only [Act.put, List.setIfInBounds_toArray, List.set_cons_zero, List.set_cons_succ]
             try rfl)
        refine q_op' (v := .bool true) (a' := ?_) (by rfl) ?_ ?_ ?_
        rotate_left 1
        · intro w' hC
          have z1 := run_string (HR.out.1.grow hC)
          go_simp
          rw [ext_take]
          first | rfl | (simp; done) | (go_simp; done)
        · simp only [Act.put, List.setIfInBounds_toArray, List.set_cons_zero, List.set_cons_succ]
          try rfl
        iterate 2
          (refine q_op' (v := ?_) (a' := ?_) (by rfl) ?_ ?_ ?_
           rotate_left 2
           · intro w' hC
             have z1 := run_string (HR.out.1.grow hC)
             go_simp
             try with_reducible rfl
           · simp only [Act.put, List.setIfInBounds_toArray, List.set_cons_zero, List.set_cons_succ]
             try rfl)
        refine wpQuiet_nil ?_
        intro w12 hC
        have HGZ := Lib.hid hC
        clear hC
        go_wp2_with (fail)
        go_ret
        exact ⟨rfl, (HR.out.2.grow HGZ.out).low⟩
  · have hgr' : (n0 : Int) + (n1 : Int) > 9000 := by omega
    clear hgr
    go_wp2_with (fail)
    go_ret
    exact ⟨rfl, HD.out.low⟩

set_option maxRecDepth 100000 in
theorem diskKept_lifted (os : Os) (started : os.Started) (H : Type) (enc : TypeId × Value → H) :
    ReturnsInHanded {} Try.checked os 9 .any (Rows.diskKeptSpec.pre6 enc Try.prog Try.f9 Rows.diskKeptRow.domain false) (Rows.diskKeptSpec.post enc Try.prog Try.f9 false true false false) := by
  refine lift_law (C := Try.checked) H enc own started (by kernel_rfl) Try.func9
    (ChangeSpec.witness6 (enc := enc) (C := Try.checked) false ⟨#[], #[.slice none 0 0, .slice none 0 0, .slice none 0 0, .int .i64 0, .slice none 0 0], []⟩ 16 (by kernel_rfl) (by kernel_rfl) (by kernel_rfl) (by kernel_rfl))
    laidOut (of_readable (by kernel_rfl)) rfl Try.underlying4 rfl (fun ds hd => ?_) (fun W base args ds p hval hA hsz => ?_)
  · match ds, hd with
    | [d1, d2, d3, d4, d5], _ => rfl
  · rw [Try.params9] at hA hval hsz
    obtain ⟨v0, vs0, d0, ds0, p0, q0, hargs, rfl, rfl, h0, r0⟩ := trodAll_cons hA
    obtain ⟨v1, vs1, d1, ds1, p1, q1, rfl, rfl, rfl, h1, r1⟩ := trodAll_cons r0
    obtain ⟨v2, vs2, d2, ds2, p2, q2, rfl, rfl, rfl, h2, r2⟩ := trodAll_cons r1
    obtain ⟨v3, vs3, d3, ds3, p3, q3, rfl, rfl, rfl, h3, r3⟩ := trodAll_cons r2
    obtain ⟨v4, vs4, d4, ds4, p4, q4, rfl, rfl, rfl, h4, r4⟩ := trodAll_cons r3
    obtain ⟨rfl, rfl, rfl⟩ := trodAll_nil r4
    obtain rfl : args = #[v0, v1, v2, v3, v4] := by cases args; simp_all
    obtain ⟨A0, n0, c0, xs0, rfl, hx0⟩ := open_bytes Try.underlying23 Try.underlying5 (by kernel_rfl) (by kernel_rfl) (hval 0 23 v0 rfl rfl) h0 hsz (j := 0) rfl rfl
    obtain ⟨A1, n1, c1, xs1, rfl, hx1⟩ := open_bytes Try.underlying23 Try.underlying5 (by kernel_rfl) (by kernel_rfl) (hval 1 23 v1 rfl rfl) h1 hsz (j := 1) rfl rfl
    obtain ⟨A2, n2, c2, xs2, rfl, hx2⟩ := open_ops8 (hval 2 38 v2 rfl rfl) h2 hsz (j := 2) rfl rfl
    obtain ⟨a3, rfl, _, _, w3⟩ := open_int Try.underlying3 (hval 3 3 v3 rfl rfl) h3
    have b3 := bounds_i64 w3
    obtain ⟨A4, n4, c4, xs4, rfl, hx4, hb4⟩ := open_i64b (hval 4 39 v4 rfl rfl) h4
    exact diskKept_law W A0 n0 c0 xs0 hx0 A1 n1 c1 xs1 hx1 A2 n2 c2 xs2 hx2 a3 (by omega) A4 n4 c4 xs4 hx4 hb4

theorem diskKept_over : Rows.diskKeptRow.holds Try.pinned (OpenSpec.ofChange Rows.diskKeptSpec) :=
  OpenClaim.holds_of_wide 9 Try.f9 rfl rfl rfl rfl rfl rfl rfl ⟨rfl, rfl, rfl, rfl, rfl⟩ rfl rfl rfl rfl rfl (by kernel_rfl) Try.func9 (by kernel_rfl)
    (of_decide_eq_true (by kernel_rfl)) (by unfold Func.isWrapper; first | (rw [if_pos (by decide +kernel)]; kernel_rfl) | (rw [if_neg (by decide +kernel)]; exact ⟨rfl, rfl⟩))
    (fun os started H enc _ => diskKept_lifted os started H enc)
theorem diskKept_holds : Rows.DiskKeptSaid := diskKept_over
end Go.Proofs.Ytmfhpfehphbklaa
