/-
  Statement DiskNames: names behind a Boot are as they were at some time since they were kept. All arguments, no condition.
-/
import Derived.Test.YtmfhpfehphbklaaDkNs
import Derived.Test.YtmfhpfehphbklaaDkGreat
import Derived.Test.YtmfhpfehphbklaaDkHead
import Derived.ProofKit
import Derived.ChangeOld
namespace Go.Proofs.Ytmfhpfehphbklaa
open Go.ChangeShapes Go.WideShapes Go.ChangeAt Go.RowKit
set_option linter.unusedSimpArgs false
set_option linter.unusedVariables false

theorem infoStrs : (Try.prog.info? 57).map (fun i => (i.zero, i.size, i.bytes)) = some (some (.slice none 0 0), 1, 24) := by kernel_rfl
set_option maxHeartbeats 16000000 in
set_option maxRecDepth 100000 in
theorem diskNames_law (w : World) (A0 : Option Addr) (n0 c0 : Nat) (os : List O8) (ho : Ops8 w A0 n0 c0 os) (N0 : Int) (hN0 : 0 ≤ N0 ∧ N0 < 256) (A2 : Option Addr) (n2 c2 : Nat) (bs : List Int) (hb : Ints w A2 n2 c2 bs) (hbb : ∀ x ∈ bs, -9223372036854775808 ≤ x ∧ x ≤ 9223372036854775807) :
    Calls Try.prog 10 #[.slice A0 n0 c0, .int .u8 N0, .slice A2 n2 c2] w fun e w' => e = .returned (.bool true) ∧ Below w.heap.size w w' := by
  obtain ⟨N, rfl⟩ := Int.eq_ofNat_of_zero_le hN0.1
  have hN : N < 256 := by omega
  clear hN0
  obtain ⟨i1, hi1, hz1, hy1, hb1⟩ := info_parts infoStrs
  have HI1 := Lib.hid (And.intro hi1 (And.intro hz1 (And.intro hy1 hb1)))
  clear hi1 hz1 hy1 hb1
  have HB := Lib.hid (And.intro hb (And.intro hbb hb.block))
  have HO := Lib.hid ho
  have hn0 := ho.top
  have HLO := Lib.hid ho.len
  clear hb hbb ho
  go_enter Try.func10, Try.ntmps10
  go_wp2_with (fail)
  refine (head8_any w).mono ?_
  rintro e w0 ⟨rfl, hb0⟩
  have HB0 := Lib.hid hb0
  clear hb0
  go_wp2_with (fail)
  refine (new_any w0 1048576).mono ?_
  rintro e w1 ⟨d, rfl, hn⟩
  have HD := Lib.hid (show DkIn w.heap.size w w1 d (fun _ => False) (Dk.new 1048576) from DkIn.new hn HB0.out.size HB0.out (fun k h => h.elim))
  clear hn
  have hg8 := great8_any A0 n0 c0 os w1 (HO.out.grow HD.out.low)
  have HG8 := Lib.hid hg8
  clear hg8
  go_wp2_with (fail)
  refine HG8.out.mono ?_
  rintro e w2 (⟨rfl, hg⟩ | ⟨rfl, hn150, hall, hg⟩)
  · have HZ := Lib.hid (HD.out.grow hg)
    clear hg
    go_wp2_with (fail)
    go_ret
    exact ⟨rfl, HZ.out.low⟩
  have HD1 := Lib.hid (HD.out.grow hg)
  have HALL := Lib.hid (And.intro hn150 hall)
  clear hg HD hall
  by_cases h900 : n2 ≤ 900
  rotate_left 1
  · have h900' : ¬ ((n2 : Int) ≤ 900) := by omega
    have h900'' : (n2 : Int) > 900 := by omega
    go_wp2_with (fail)
    go_ret
    exact ⟨rfl, HD1.out.low⟩
  have h900' : ¬ ((n2 : Int) > 900) := by omega
  go_wp2_with (fail)
  have hnew : NS w.heap.size w w2 d (Dk.new 1048576) (.slice none 0 0) [] := ⟨_, HD1.out, fun k h => h.elim, [], ⟨rfl, .inl ⟨rfl, rfl⟩⟩, fun k hk => (by cases hk), fun i u ns hu => (by simp at hu)⟩
  refine (hnew.list (DkOk.new 1048576) (by omega)).mono ?_
  rintro e w3 ⟨LA0, lc0, rfl, hn1⟩
  have HN0 := Lib.hid hn1.lit
  clear hn1 hnew
  go_wp2_with (fail)
  go_loopw [9, 10] (fun vw vi wr => ∃ (j q : Nat) (m : Dk) (WA : Option Addr) (wc : Nat), j ≤ n0 ∧ q ≤ j ∧ vw = .slice WA (q + 1) wc ∧ vi = .int .i64 (j : Nat) ∧ Hid (q = m.pend.length) ∧ Hid (NS w.heap.size w wr d m (.slice WA (q + 1) wc) (wereL m)) ∧ Hid (DkOk (j + o8all (os.take j)) m) ∧ Hid (m.names = redo m.pend m.kept) ∧ Hid (0 ≤ m.done ∧ m.done ≤ j)) (fun _ i _ => n0 - (intOf i).toNat)
  case atStart => exact ⟨0, 0, Dk.new 1048576, _, _, by omega, by omega, rfl, rfl, Lib.hid rfl, Lib.hid HN0.out, Lib.hid ((DkOk.new 1048576).mono (by omega)), Lib.hid rfl, Lib.hid ⟨by show (0 : Int) ≤ 0; omega, by show (0 : Int) ≤ 0; omega⟩⟩
  case round =>
    obtain ⟨j, q, m, WA, wc, hj, hq, rfl, rfl, HQ, HN3, HOK3, HNR, HDB⟩ := hrel
    clear HD1 HN0
    by_cases hlt : j < n0
    · have hlt' : (j : Int) < (n0 : Int) := by omega
      have hj0 : (0 : Int) ≤ (j : Int) := by omega
      obtain ⟨ad, o, p, rfl, hblk, hoi, hat, hcs⟩ := HO.out.spot j hlt
      obtain ⟨q0, q1, q2, q3, q4, q5, q6⟩ := o8_cells (by rw [add_block]; exact hblk) hcs HN3.out.low
      have HNA := Lib.hid (fun obj => HN3.out.grow (grows_alloc wr obj))
      have HBD := Lib.hid (show o.name.length ≤ 9000 ∧ o.to.length ≤ 9000 ∧ j ≤ 150 ∧ q ≤ 150 ∧ j + 1 + o8all (os.take (j + 1)) ≤ 30000 ∧ o8all (os.take (j + 1)) = o8all (os.take j) + o8len o by
        have h1 := o8all_one hoi
        have h2 := o8all_take os (j + 1)
        have h3 := HALL.out
        unfold o8len at h1 ⊢
        omega)
      have HLT := Lib.hid hlt
      obtain ⟨D, hD⟩ : ∃ D, m.done = D := ⟨_, rfl⟩
      have HDB2 := HDB.out
      rw [hD] at HDB2
      have HDB3 := Lib.hid HDB2
      clear HDB2 HDB
      have HDB := HDB3
      have hnd := fun obj => (HNA.out obj).done
      rw [hD] at hnd
      have HND := Lib.hid hnd
      clear hblk hoi hat hcs hnd HDB3
      go_wp2_with (fail)
      refine (HND.out _).mono ?_
      rintro e w10 ⟨rfl, rfl⟩
      by_cases h0 : o.what = 0
      · go_wp2_with (fail)
        refine (HN3.out.call2 (fun own h1 => create_in o.name h1 HOK3.out (by have := HBD.out; omega) (by have := HBD.out; omega) rfl rfl)).mono ?_
        rintro e w11 ⟨rfl, hns, hwh⟩
        have c6 : w11.cell? { block := wr.heap.size, off := 0 } = some (.int .i64 0) := hwh.cell 0
        clear hwh
        have hst := n_create (m := m) (by rw [hD]; have := HDB.out; omega) o.name
        obtain ⟨m1, hm1⟩ : ∃ m1, (m.create o.name).1 = m1 := ⟨_, rfl⟩
        rw [hm1] at hns hst
        have HOK1 := Lib.hid (show DkOk (j + 1 + o8all (os.take (j + 1))) m1 from hm1 ▸ (HOK3.out.create o.name).mono (by have := HBD.out; omega))
        have HN11 := Lib.hid hns
        clear hns hm1
        rcases hst with hst | hst
        · have HQ1 := Lib.hid (show q = m1.pend.length by rw [hst.pend]; exact HQ.out)
          have HW1 := Lib.hid (show wereL m1 = wereL m from wereL_same hst.pend hst.kept)
          have HNR1 := Lib.hid (show m1.names = redo m1.pend m1.kept by rw [hst.names, hst.pend, hst.kept]; exact HNR.out)
          have hdn := HN11.out.done
          rw [hst.done, hD] at hdn
          have HDN2 := Lib.hid hdn
          have HD1 := Lib.hid (show m1.done = D by rw [hst.done]; exact hD)
          clear hst hdn
          go_wp2_with (fail)
          refine HDN2.out.mono ?_
          rintro e w12 ⟨rfl, rfl⟩
          go_wp2_with (fail)
          refine HDN2.out.mono ?_
          rintro e w12 ⟨rfl, rfl⟩
          go_wp2_with (fail)
          exact ⟨⟨j + 1, q, m1, WA, wc, HLT.out, by omega, rfl, rfl, HQ1, Lib.hid (HW1.out.symm ▸ HN11.out), HOK1, HNR1, Lib.hid (by have := HD1.out; have := HDB.out; have := HBD.out; omega)⟩, less_one HLT.out⟩
        · obtain ⟨hdn1, c, hp, hk, hn⟩ := hst
          have hwl := wereL_one HNR.out hp hk hn
          have HQ1 := Lib.hid (show m1.pend.length = m.pend.length + 1 ∧ True by rw [hp, List.length_append]; exact ⟨rfl, trivial⟩)
          have HW1 := Lib.hid (show wereL m ++ [m1.names.map (·.1)] = wereL m1 from hwl.1.symm)
          have HNR1 := Lib.hid hwl.2
          obtain ⟨D1, hD1⟩ : ∃ D1, m1.done = D1 := ⟨_, rfl⟩
          have hgt : D < D1 := by rw [← hD1, hdn1, hD]; omega
          have HD1 := Lib.hid (show m1.done = D + 1 by rw [hdn1, hD])
          have hdn := HN11.out.done
          rw [hD1] at hdn
          have HDN2 := Lib.hid hdn
          clear hdn1 hp hk hn hwl hD1 hdn
          go_wp2_with (fail)
          refine HDN2.out.mono ?_
          rintro e w12 ⟨rfl, rfl⟩
          go_wp2_with (fail)
          refine HDN2.out.mono ?_
          rintro e w12 ⟨rfl, rfl⟩
          go_wp2_with (fail)
          refine (HN11.out.list HOK1.out (by have := HBD.out; omega)).mono ?_
          rintro e w13 ⟨LA, lc, rfl, hn1⟩
          have hpu := hn1.push
          rw [wereL_length, ← HQ.out] at hpu
          obtain ⟨us, hpu⟩ := hpu
          have HPU := Lib.hid hpu
          clear hpu hn1
          go_wp2_with (first
            | (at_builtin
               refine list_append_row rfl (.tmp 88) (.tmp 91) 59 rfl Try.underlying59 HI1.out.1 HI1.out.2.1 HI1.out.2.2.1 HI1.out.2.2.2 rfl (v := .slice WA (q + 1) wc) (n := q + 1) (xs := us) rfl
                 HPU.out.1 (news := [.slice LA m1.names.length lc]) rfl (row_one _ _ _) (fun h => by cases h) (by intro u hu; rw [List.mem_singleton.1 hu]; rfl) (q + 1 + 1) rfl _ rfl (by unfold maxLen; have := HBD.out; omega) (by have := HBD.out; omega) (by rw [World.size_alloc]; have := HPU.out.2.1; omega) ?_
               intro WB wd w14 hr14 _ hg14 hat14
               have HN14 := Lib.hid (HPU.out.2.2 _ _ _ hr14 hg14 hat14)
               clear hr14 hg14 hat14))
          exact ⟨⟨j + 1, q + 1, m1, WB, wd, HLT.out, by omega, rfl, rfl, Lib.hid (by rw [HQ1.out.1, HQ.out]), Lib.hid (HW1.out ▸ HN14.out), HOK1, HNR1, Lib.hid (by have := HD1.out; have := HDB.out; have := HBD.out; omega)⟩, less_one HLT.out⟩
      by_cases h4 : o.what = 4
      · go_wp2_with (fail)
        refine (HN3.out.call2 (fun own h1 => rename_in o.name o.to h1 HOK3.out (by have := HBD.out; omega) (by have := HBD.out; omega) (by have := HBD.out; omega) rfl rfl)).mono ?_
        rintro e w11 ⟨rfl, hns, hwh⟩
        have c6 : w11.cell? { block := wr.heap.size, off := 0 } = some (.int .i64 4) := hwh.cell 0
        clear hwh
        have hst := n_rename (m := m) (by rw [hD]; have := HDB.out; omega) o.name o.to
        obtain ⟨m1, hm1⟩ : ∃ m1, (m.rename o.name o.to).1 = m1 := ⟨_, rfl⟩
        rw [hm1] at hns hst
        have HOK1 := Lib.hid (show DkOk (j + 1 + o8all (os.take (j + 1))) m1 from hm1 ▸ (HOK3.out.rename o.name o.to).mono (by have := HBD.out; omega))
        have HN11 := Lib.hid hns
        clear hns hm1
        rcases hst with hst | hst
        · have HQ1 := Lib.hid (show q = m1.pend.length by rw [hst.pend]; exact HQ.out)
          have HW1 := Lib.hid (show wereL m1 = wereL m from wereL_same hst.pend hst.kept)
          have HNR1 := Lib.hid (show m1.names = redo m1.pend m1.kept by rw [hst.names, hst.pend, hst.kept]; exact HNR.out)
          have hdn := HN11.out.done
          rw [hst.done, hD] at hdn
          have HDN2 := Lib.hid hdn
          have HD1 := Lib.hid (show m1.done = D by rw [hst.done]; exact hD)
          clear hst hdn
          go_wp2_with (fail)
          refine HDN2.out.mono ?_
          rintro e w12 ⟨rfl, rfl⟩
          go_wp2_with (fail)
          refine HDN2.out.mono ?_
          rintro e w12 ⟨rfl, rfl⟩
          go_wp2_with (fail)
          exact ⟨⟨j + 1, q, m1, WA, wc, HLT.out, by omega, rfl, rfl, HQ1, Lib.hid (HW1.out.symm ▸ HN11.out), HOK1, HNR1, Lib.hid (by have := HD1.out; have := HDB.out; have := HBD.out; omega)⟩, less_one HLT.out⟩
        · obtain ⟨hdn1, c, hp, hk, hn⟩ := hst
          have hwl := wereL_one HNR.out hp hk hn
          have HQ1 := Lib.hid (show m1.pend.length = m.pend.length + 1 ∧ True by rw [hp, List.length_append]; exact ⟨rfl, trivial⟩)
          have HW1 := Lib.hid (show wereL m ++ [m1.names.map (·.1)] = wereL m1 from hwl.1.symm)
          have HNR1 := Lib.hid hwl.2
          obtain ⟨D1, hD1⟩ : ∃ D1, m1.done = D1 := ⟨_, rfl⟩
          have hgt : D < D1 := by rw [← hD1, hdn1, hD]; omega
          have HD1 := Lib.hid (show m1.done = D + 1 by rw [hdn1, hD])
          have hdn := HN11.out.done
          rw [hD1] at hdn
          have HDN2 := Lib.hid hdn
          clear hdn1 hp hk hn hwl hD1 hdn
          go_wp2_with (fail)
          refine HDN2.out.mono ?_
          rintro e w12 ⟨rfl, rfl⟩
          go_wp2_with (fail)
          refine HDN2.out.mono ?_
          rintro e w12 ⟨rfl, rfl⟩
          go_wp2_with (fail)
          refine (HN11.out.list HOK1.out (by have := HBD.out; omega)).mono ?_
          rintro e w13 ⟨LA, lc, rfl, hn1⟩
          have hpu := hn1.push
          rw [wereL_length, ← HQ.out] at hpu
          obtain ⟨us, hpu⟩ := hpu
          have HPU := Lib.hid hpu
          clear hpu hn1
          go_wp2_with (first
            | (at_builtin
               refine list_append_row rfl (.tmp 88) (.tmp 91) 59 rfl Try.underlying59 HI1.out.1 HI1.out.2.1 HI1.out.2.2.1 HI1.out.2.2.2 rfl (v := .slice WA (q + 1) wc) (n := q + 1) (xs := us) rfl
                 HPU.out.1 (news := [.slice LA m1.names.length lc]) rfl (row_one _ _ _) (fun h => by cases h) (by intro u hu; rw [List.mem_singleton.1 hu]; rfl) (q + 1 + 1) rfl _ rfl (by unfold maxLen; have := HBD.out; omega) (by have := HBD.out; omega) (by rw [World.size_alloc]; have := HPU.out.2.1; omega) ?_
               intro WB wd w14 hr14 _ hg14 hat14
               have HN14 := Lib.hid (HPU.out.2.2 _ _ _ hr14 hg14 hat14)
               clear hr14 hg14 hat14))
          exact ⟨⟨j + 1, q + 1, m1, WB, wd, HLT.out, by omega, rfl, rfl, Lib.hid (by rw [HQ1.out.1, HQ.out]), Lib.hid (HW1.out ▸ HN14.out), HOK1, HNR1, Lib.hid (by have := HD1.out; have := HDB.out; have := HBD.out; omega)⟩, less_one HLT.out⟩
      by_cases h5 : o.what = 5
      · go_wp2_with (fail)
        refine (HN3.out.call2 (fun own h1 => remove_in o.name h1 HOK3.out (by have := HBD.out; omega) (by have := HBD.out; omega) rfl rfl)).mono ?_
        rintro e w11 ⟨rfl, hns, hwh⟩
        have c6 : w11.cell? { block := wr.heap.size, off := 0 } = some (.int .i64 5) := hwh.cell 0
        clear hwh
        have hst := n_remove (m := m) (by rw [hD]; have := HDB.out; omega) o.name
        obtain ⟨m1, hm1⟩ : ∃ m1, (m.remove o.name).1 = m1 := ⟨_, rfl⟩
        rw [hm1] at hns hst
        have HOK1 := Lib.hid (show DkOk (j + 1 + o8all (os.take (j + 1))) m1 from hm1 ▸ (HOK3.out.remove o.name).mono (by have := HBD.out; omega))
        have HN11 := Lib.hid hns
        clear hns hm1
        rcases hst with hst | hst
        · have HQ1 := Lib.hid (show q = m1.pend.length by rw [hst.pend]; exact HQ.out)
          have HW1 := Lib.hid (show wereL m1 = wereL m from wereL_same hst.pend hst.kept)
          have HNR1 := Lib.hid (show m1.names = redo m1.pend m1.kept by rw [hst.names, hst.pend, hst.kept]; exact HNR.out)
          have hdn := HN11.out.done
          rw [hst.done, hD] at hdn
          have HDN2 := Lib.hid hdn
          have HD1 := Lib.hid (show m1.done = D by rw [hst.done]; exact hD)
          clear hst hdn
          go_wp2_with (fail)
          refine HDN2.out.mono ?_
          rintro e w12 ⟨rfl, rfl⟩
          go_wp2_with (fail)
          refine HDN2.out.mono ?_
          rintro e w12 ⟨rfl, rfl⟩
          go_wp2_with (fail)
          exact ⟨⟨j + 1, q, m1, WA, wc, HLT.out, by omega, rfl, rfl, HQ1, Lib.hid (HW1.out.symm ▸ HN11.out), HOK1, HNR1, Lib.hid (by have := HD1.out; have := HDB.out; have := HBD.out; omega)⟩, less_one HLT.out⟩
        · obtain ⟨hdn1, c, hp, hk, hn⟩ := hst
          have hwl := wereL_one HNR.out hp hk hn
          have HQ1 := Lib.hid (show m1.pend.length = m.pend.length + 1 ∧ True by rw [hp, List.length_append]; exact ⟨rfl, trivial⟩)
          have HW1 := Lib.hid (show wereL m ++ [m1.names.map (·.1)] = wereL m1 from hwl.1.symm)
          have HNR1 := Lib.hid hwl.2
          obtain ⟨D1, hD1⟩ : ∃ D1, m1.done = D1 := ⟨_, rfl⟩
          have hgt : D < D1 := by rw [← hD1, hdn1, hD]; omega
          have HD1 := Lib.hid (show m1.done = D + 1 by rw [hdn1, hD])
          have hdn := HN11.out.done
          rw [hD1] at hdn
          have HDN2 := Lib.hid hdn
          clear hdn1 hp hk hn hwl hD1 hdn
          go_wp2_with (fail)
          refine HDN2.out.mono ?_
          rintro e w12 ⟨rfl, rfl⟩
          go_wp2_with (fail)
          refine HDN2.out.mono ?_
          rintro e w12 ⟨rfl, rfl⟩
          go_wp2_with (fail)
          refine (HN11.out.list HOK1.out (by have := HBD.out; omega)).mono ?_
          rintro e w13 ⟨LA, lc, rfl, hn1⟩
          have hpu := hn1.push
          rw [wereL_length, ← HQ.out] at hpu
          obtain ⟨us, hpu⟩ := hpu
          have HPU := Lib.hid hpu
          clear hpu hn1
          go_wp2_with (first
            | (at_builtin
               refine list_append_row rfl (.tmp 88) (.tmp 91) 59 rfl Try.underlying59 HI1.out.1 HI1.out.2.1 HI1.out.2.2.1 HI1.out.2.2.2 rfl (v := .slice WA (q + 1) wc) (n := q + 1) (xs := us) rfl
                 HPU.out.1 (news := [.slice LA m1.names.length lc]) rfl (row_one _ _ _) (fun h => by cases h) (by intro u hu; rw [List.mem_singleton.1 hu]; rfl) (q + 1 + 1) rfl _ rfl (by unfold maxLen; have := HBD.out; omega) (by have := HBD.out; omega) (by rw [World.size_alloc]; have := HPU.out.2.1; omega) ?_
               intro WB wd w14 hr14 _ hg14 hat14
               have HN14 := Lib.hid (HPU.out.2.2 _ _ _ hr14 hg14 hat14)
               clear hr14 hg14 hat14))
          exact ⟨⟨j + 1, q + 1, m1, WB, wd, HLT.out, by omega, rfl, rfl, Lib.hid (by rw [HQ1.out.1, HQ.out]), Lib.hid (HW1.out ▸ HN14.out), HOK1, HNR1, Lib.hid (by have := HD1.out; have := HDB.out; have := HBD.out; omega)⟩, less_one HLT.out⟩
      by_cases h6 : o.what = 6
      · go_wp2_with (fail)
        refine (HN3.out.call2 (fun own h1 => syncDir_in h1 HOK3.out (by have := HBD.out; omega) rfl rfl)).mono ?_
        rintro e w11 ⟨rfl, hns, hwh⟩
        have c6 : w11.cell? { block := wr.heap.size, off := 0 } = some (.int .i64 6) := hwh.cell 0
        clear hwh
        have hst := n_syncDir (m := m) (by rw [hD]; have := HDB.out; omega)
        obtain ⟨m1, hm1⟩ : ∃ m1, m.syncDir.1 = m1 := ⟨_, rfl⟩
        rw [hm1] at hns hst
        have HOK1 := Lib.hid (show DkOk (j + 1 + o8all (os.take (j + 1))) m1 from hm1 ▸ (HOK3.out.syncDir).mono (by have := HBD.out; omega))
        have HN11 := Lib.hid hns
        clear hns hm1
        rcases hst with hst | hst
        · have HQ1 := Lib.hid (show q = m1.pend.length by rw [hst.pend]; exact HQ.out)
          have HW1 := Lib.hid (show wereL m1 = wereL m from wereL_same hst.pend hst.kept)
          have HNR1 := Lib.hid (show m1.names = redo m1.pend m1.kept by rw [hst.names, hst.pend, hst.kept]; exact HNR.out)
          have hdn := HN11.out.done
          rw [hst.done, hD] at hdn
          have HDN2 := Lib.hid hdn
          have HD1 := Lib.hid (show m1.done = D by rw [hst.done]; exact hD)
          clear hst hdn
          go_wp2_with (fail)
          refine HDN2.out.mono ?_
          rintro e w12 ⟨rfl, rfl⟩
          go_wp2_with (fail)
          refine HDN2.out.mono ?_
          rintro e w12 ⟨rfl, rfl⟩
          go_wp2_with (fail)
          exact ⟨⟨j + 1, q, m1, WA, wc, HLT.out, by omega, rfl, rfl, HQ1, Lib.hid (HW1.out.symm ▸ HN11.out), HOK1, HNR1, Lib.hid (by have := HD1.out; have := HDB.out; have := HBD.out; omega)⟩, less_one HLT.out⟩
        · obtain ⟨hdn1, hp, hk, hn⟩ := hst
          have hkn : m1.kept = m1.names := by rw [hk, hn]; exact HNR.out.symm
          have HQ1 := Lib.hid (show 0 = m1.pend.length by rw [hp]; rfl)
          have HW1 := Lib.hid (show [m1.names.map (·.1)] = wereL m1 from (wereL_none hp hkn).symm)
          have HNR1 := Lib.hid (show m1.names = redo m1.pend m1.kept by rw [hp, hkn]; rfl)
          obtain ⟨D1, hD1⟩ : ∃ D1, m1.done = D1 := ⟨_, rfl⟩
          have hgt : D < D1 := by rw [← hD1, hdn1, hD]; omega
          have HD1 := Lib.hid (show m1.done = D + 1 by rw [hdn1, hD])
          have hdn := HN11.out.done
          rw [hD1] at hdn
          have HDN2 := Lib.hid hdn
          clear hdn1 hp hk hn hkn hD1 hdn
          go_wp2_with (fail)
          refine HDN2.out.mono ?_
          rintro e w12 ⟨rfl, rfl⟩
          go_wp2_with (fail)
          refine (HN11.out.list HOK1.out (by have := HBD.out; omega)).mono ?_
          rintro e w13 ⟨LA, lc, rfl, hn1⟩
          have HN14 := Lib.hid hn1.lit
          clear hn1
          go_wp2_with (fail)
          exact ⟨⟨j + 1, 0, m1, some ⟨w13.heap.size, 0, none⟩, 1, HLT.out, by omega, rfl, rfl, HQ1, Lib.hid (HW1.out ▸ HN14.out), HOK1, HNR1, Lib.hid (by have := HD1.out; have := HDB.out; have := HBD.out; omega)⟩, less_one HLT.out⟩
      have HN11 := Lib.hid (fun obj => HNA.out obj)
      go_wp2_with (fail)
      refine (HND.out _).mono ?_
      rintro e w12 ⟨rfl, rfl⟩
      go_wp2_with (fail)
      refine (HND.out _).mono ?_
      rintro e w12 ⟨rfl, rfl⟩
      go_wp2_with (fail)
      exact ⟨⟨j + 1, q, m, WA, wc, HLT.out, by omega, rfl, rfl, HQ, Lib.hid (HN11.out _), Lib.hid (HOK3.out.mono (by have := HBD.out; omega)), HNR, Lib.hid (by have := HDB.out; have := HBD.out; omega)⟩, less_one HLT.out⟩
    · obtain rfl : j = n0 := by omega
      have hwN : IntKind.i64.wrap (N : Int) = N := IntWalk.i64_in _ (by omega)
      have HK := Lib.hid (show q ≤ 150 ∧ j + o8all (os.take j) ≤ 30000 by
        have h2 := o8all_take os j
        have h3 := HALL.out
        omega)
      go_wp2_with (fail)
      refine (HN3.out.boot HOK3.out (by have := HK.out; omega) (N : Int) (HB.out.1.grow HN3.out.low) HB.out.2.1 HB.out.2.2).mono ?_
      rintro e w5 ⟨rfl, hns⟩
      have hbn := boot_names m N bs
      have HOKB := Lib.hid (HOK3.out.boot N bs)
      generalize m.boot N bs = mb at hns hbn HOKB
      obtain ⟨g, wd, u, A, c, hv, rfl, hcell, hrow⟩ := hns.at hbn
      have HNS := Lib.hid hns
      injection hv with hv1 hv2 hv3
      subst hv1
      obtain ⟨k, hk⟩ : ∃ k, min N m.pend.length = k := ⟨_, rfl⟩
      rw [hk] at hcell
      have hkq : k ≤ q := by have := HQ.out; omega
      have hmin : (if (q : Int) < (N : Int) then (q : Int) else (N : Int)) = (k : Int) := by have := HQ.out; split <;> omega
      have hkI : (k : Int) < (q : Int) + 1 := by omega
      have hsub : IntKind.i64.wrap ((q : Int) + 1 - 1) = q := by rw [IntWalk.i64_in _ (by omega)]; omega
      have HCELL := Lib.hid hcell
      have HROW := Lib.hid hrow
      obtain ⟨ns, hnse⟩ : ∃ ns, mb.names.map (·.1) = ns := ⟨_, rfl⟩
      have hnm := fun w' hC => (HNS.out.grow (w' := w') hC).names HOKB.out (by have := HK.out; omega)
      rw [hnse] at HCELL HROW hnm
      have HNM := Lib.hid hnm
      have HNL := Lib.hid (show ns.length ≤ 1000000000000 by rw [← hnse, List.length_map]; have := HOKB.out.names; have := HK.out; omega)
      clear hns hbn hcell hrow hk hv2 hv3 hnm hnse
      have hwq : IntKind.i64.wrap (q : Int) = q := IntWalk.i64_in _ (by omega)
      go_wp2_with (fail)
      refine wp_region_facts (E := Grows) [valFact (.bool true), valFact (.bool true), valFact (.pointer (some ⟨d, 0, none⟩)), nmFact (ns), valFact (.slice (some ⟨g, 0, none⟩) (q + 1) wc), valFact (.int .u8 (N : Int)), valFact (.int .i64 (N : Int)), valFact (.slice (some ⟨g, 0, none⟩) (q + 1) wc), valFact (.int .i64 ((q : Int) + 1)), valFact (.int .i64 (q : Int)), valFact (.int .i64 (k : Int)), valFact (.pointer (some ⟨g, k, none⟩)), valFact (.slice A ns.length c), valFact (.bool true), valFact (.bool true), valFact (.bool true)] (by kernel_rfl) (by kernel_rfl) (fun _ _ _ => Grows.trans) (grows_drew _) ?_
      refine f_val (.bool true) (by rfl) ?_ ?_
      · intro w' hC; clear hC; first | (go_simp; done) | (go_simp; exact hmin) | (go_simp; omega)
      simp only [Act.put, List.setIfInBounds_toArray, List.set_cons_zero, List.set_cons_succ]
      refine f_val (.bool true) (by rfl) ?_ ?_
      · intro w' hC; clear hC; first | (go_simp; done) | (go_simp; exact hmin) | (go_simp; omega)
      simp only [Act.put, List.setIfInBounds_toArray, List.set_cons_zero, List.set_cons_succ]
      refine f_val (.pointer (some ⟨d, 0, none⟩)) (by rfl) ?_ ?_
      · intro w' hC; clear hC; first | (go_simp; done) | (go_simp; exact hmin) | (go_simp; omega)
      simp only [Act.put, List.setIfInBounds_toArray, List.set_cons_zero, List.set_cons_succ]
      refine f_names (ns) 34 #[.pointer (some ⟨d, 0, none⟩)] (by rfl) (by intro w' hC; clear hC; go_simp) ?_ ?_
      · intro w' hC hks; exact HNM.out w' hC
      intro LA lc
      simp only [Act.put, List.setIfInBounds_toArray, List.set_cons_zero, List.set_cons_succ]
      refine f_val (.slice (some ⟨g, 0, none⟩) (q + 1) wc) (by rfl) ?_ ?_
      · intro w' hC; clear hC; first | (go_simp; done) | (go_simp; exact hmin) | (go_simp; omega)
      simp only [Act.put, List.setIfInBounds_toArray, List.set_cons_zero, List.set_cons_succ]
      refine f_val (.int .u8 (N : Int)) (by rfl) ?_ ?_
      · intro w' hC; clear hC; first | (go_simp; done) | (go_simp; exact hmin) | (go_simp; omega)
      simp only [Act.put, List.setIfInBounds_toArray, List.set_cons_zero, List.set_cons_succ]
      refine f_val (.int .i64 (N : Int)) (by rfl) ?_ ?_
      · intro w' hC; clear hC; first | (go_simp; done) | (go_simp; exact hmin) | (go_simp; omega)
      simp only [Act.put, List.setIfInBounds_toArray, List.set_cons_zero, List.set_cons_succ]
      refine f_val (.slice (some ⟨g, 0, none⟩) (q + 1) wc) (by rfl) ?_ ?_
      · intro w' hC; clear hC; first | (go_simp; done) | (go_simp; exact hmin) | (go_simp; omega)
      simp only [Act.put, List.setIfInBounds_toArray, List.set_cons_zero, List.set_cons_succ]
      refine f_val (.int .i64 ((q : Int) + 1)) (by rfl) ?_ ?_
      · intro w' hC; clear hC; first | (go_simp; done) | (go_simp; exact hmin) | (go_simp; omega)
      simp only [Act.put, List.setIfInBounds_toArray, List.set_cons_zero, List.set_cons_succ]
      refine f_val (.int .i64 (q : Int)) (by rfl) ?_ ?_
      · intro w' hC; clear hC; first | (go_simp; done) | (go_simp; exact hmin) | (go_simp; omega)
      simp only [Act.put, List.setIfInBounds_toArray, List.set_cons_zero, List.set_cons_succ]
      refine f_val (.int .i64 (k : Int)) (by rfl) ?_ ?_
      · intro w' hC; clear hC; first | (go_simp; done) | (go_simp; exact hmin) | (go_simp; omega)
      simp only [Act.put, List.setIfInBounds_toArray, List.set_cons_zero, List.set_cons_succ]
      refine f_val (.pointer (some ⟨g, k, none⟩)) (by rfl) ?_ ?_
      · intro w' hC; clear hC; first | (go_simp; done) | (go_simp; exact hmin) | (go_simp; omega)
      simp only [Act.put, List.setIfInBounds_toArray, List.set_cons_zero, List.set_cons_succ]
      refine f_val (.slice A ns.length c) (by rfl) ?_ ?_
      · intro w' hC; have z := HCELL.out w' hC; clear hC; first | (go_simp; done) | (go_simp; exact hmin) | (go_simp; omega)
      simp only [Act.put, List.setIfInBounds_toArray, List.set_cons_zero, List.set_cons_succ]
      refine f_call 38 #[.slice LA ns.length lc, .slice A ns.length c] (.bool true) (by rfl) (by intro w' hC; clear hC; go_simp) ?_ ?_
      · intro w' hC hks; have h1 := (Known.get hks 0 rfl rfl : Row w' w'.heap.size LA ns.length (ns.map strB)); have h2 := same_names LA ns.length lc A ns.length c ns ns w' h1 (HROW.out w' hC) HNL.out; rw [decide_eq_true (Eq.refl ns)] at h2; exact h2
      simp only [Act.put, List.setIfInBounds_toArray, List.set_cons_zero, List.set_cons_succ]
      refine f_val (.bool true) (by rfl) ?_ ?_
      · intro w' hC; clear hC; first | (go_simp; done) | (go_simp; exact hmin) | (go_simp; omega)
      simp only [Act.put, List.setIfInBounds_toArray, List.set_cons_zero, List.set_cons_succ]
      refine f_val (.bool true) (by rfl) ?_ ?_
      · intro w' hC; clear hC; first | (go_simp; done) | (go_simp; exact hmin) | (go_simp; omega)
      simp only [Act.put, List.setIfInBounds_toArray, List.set_cons_zero, List.set_cons_succ]
      intro w6 hC _
      have HCw6 := Lib.hid hC
      clear hC
      go_wp2_with (fail)
      go_ret
      exact ⟨rfl, (HNS.out.grow HCw6.out).low⟩

set_option maxRecDepth 100000 in
theorem diskNames_lifted (os : Os) (started : os.Started) (H : Type) (enc : TypeId × Value → H) :
    ReturnsInHanded {} Try.checked os 10 .any (Rows.diskNamesSpec.pre6 enc Try.prog Try.f10 Rows.diskNamesRow.domain false) (Rows.diskNamesSpec.post enc Try.prog Try.f10 false true false false) := by
  refine lift_law (C := Try.checked) H enc own started (by kernel_rfl) Try.func10
    (ChangeSpec.witness6 (enc := enc) (C := Try.checked) false ⟨#[], #[.slice none 0 0, .int .u8 0, .slice none 0 0], []⟩ 16 (by kernel_rfl) (by kernel_rfl) (by kernel_rfl) (by kernel_rfl))
    laidOut (of_readable (by kernel_rfl)) rfl Try.underlying4 rfl (fun ds hd => ?_) (fun W base args ds p hval hA hsz => ?_)
  · match ds, hd with
    | [d1, d2, d3], _ => rfl
  · rw [Try.params10] at hA hval hsz
    obtain ⟨v0, vs0, d0, ds0, p0, q0, hargs, rfl, rfl, h0, r0⟩ := trodAll_cons hA
    obtain ⟨v1, vs1, d1, ds1, p1, q1, rfl, rfl, rfl, h1, r1⟩ := trodAll_cons r0
    obtain ⟨v2, vs2, d2, ds2, p2, q2, rfl, rfl, rfl, h2, r2⟩ := trodAll_cons r1
    obtain ⟨rfl, rfl, rfl⟩ := trodAll_nil r2
    obtain rfl : args = #[v0, v1, v2] := by cases args; simp_all
    obtain ⟨A0, n0, c0, xs0, rfl, hx0⟩ := open_ops8 (hval 0 38 v0 rfl rfl) h0 hsz (j := 0) rfl rfl
    obtain ⟨a1, rfl, _, _, w1⟩ := open_int Try.underlying5 (hval 1 5 v1 rfl rfl) h1
    have b1 := bounds_u8 w1
    obtain ⟨A2, n2, c2, xs2, rfl, hx2, hb2⟩ := open_i64b (hval 2 39 v2 rfl rfl) h2
    exact diskNames_law W A0 n0 c0 xs0 hx0 a1 (by omega) A2 n2 c2 xs2 hx2 hb2

theorem diskNames_over : Rows.diskNamesRow.holds Try.pinned (OpenSpec.ofChange Rows.diskNamesSpec) :=
  OpenClaim.holds_of_wide 10 Try.f10 rfl rfl rfl rfl rfl rfl rfl ⟨rfl, rfl, rfl, rfl, rfl⟩ rfl rfl rfl rfl rfl (by kernel_rfl) Try.func10 (by kernel_rfl)
    (of_decide_eq_true (by kernel_rfl)) (by unfold Func.isWrapper; first | (rw [if_pos (by decide +kernel)]; kernel_rfl) | (rw [if_neg (by decide +kernel)]; exact ⟨rfl, rfl⟩))
    (fun os started H enc _ => diskNames_lifted os started H enc)
theorem diskNames_holds : Rows.DiskNamesSaid := diskNames_over
end Go.Proofs.Ytmfhpfehphbklaa
