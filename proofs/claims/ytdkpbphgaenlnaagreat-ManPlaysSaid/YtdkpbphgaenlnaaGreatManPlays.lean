/-
  Statement ManPlays: saves on a disk of any size, that fails, is cut and spoilt, answer as the document says. All arguments, no condition.
-/
import Derived.Test.YtdkpbphgaenlnaaGreatMT
import Derived.Test.YtdkpbphgaenlnaaGreatMUb
import Derived.Test.YtdkpbphgaenlnaaGreatMWb
import Derived.ProofKit
import Derived.ChangeOld
namespace Go.Proofs.YtdkpbphgaenlnaaGreat
open Go.ChangeShapes Go.WideShapes Go.ChangeAt Go.RowKit
set_option linter.unusedSimpArgs false
set_option linter.unusedVariables false
theorem o10_cells {w wr : World} {a : Addr} {o : O10} {p : P10} (hb : a.block < w.heap.size) (hc : ∀ k, k < 6 → w.cell? (a.add k) = (o10V o p)[k]?) (hg : Grows w wr) :
    wr.cell? a = some (.int .i64 o.what) ∧ wr.cell? { block := a.block, off := a.off + 1 } = some (.slice p.MA p.mn p.mc) ∧ wr.cell? { block := a.block, off := a.off + 2 } = some (.int .i64 o.m.next) ∧
      wr.cell? { block := a.block, off := a.off + 3 } = some (.int .i64 o.n) ∧ wr.cell? { block := a.block, off := a.off + 4 } = some (.slice p.IA p.im p.ic) ∧ wr.cell? { block := a.block, off := a.off + 5 } = some (.int .u32 o.bits) := by
  have key : ∀ k, k < 6 → wr.cell? (a.add k) = (o10V o p)[k]? := fun k hk => (hg.cell (by rw [add_block]; exact hb)).trans (hc k hk)
  have h0 := key 0 (by omega)
  rw [show a.add 0 = a by unfold Addr.add; simp] at h0
  have h1 := key 1 (by omega)
  have h2 := key 2 (by omega)
  have h3 := key 3 (by omega)
  have h4 := key 4 (by omega)
  have h5 := key 5 (by omega)
  rw [add_fld] at h1 h2 h3 h4 h5
  exact ⟨h0, h1, h2, h3, h4, h5⟩
theorem load_len (m : Dk) : (loadP m).1.segs.length ≤ 1000 := by
  unfold loadP
  split
  · exact Nat.zero_le _
  · split
    · cases h : getM ((m.read nmM 0 (m.size nmM).1).1.getD []) with
      | none => exact Nat.zero_le _
      | some x => exact rightM_len (put_getM h).1
    · exact Nat.zero_le _
set_option maxHeartbeats 16000000 in
set_option maxRecDepth 100000 in
theorem manPlays_law (w : World) (most : Int) (hmost : -9223372036854775808 ≤ most ∧ most ≤ 9223372036854775807) (A0 : Option Addr) (n0 c0 : Nat) (os : List O10) (ho : Ops10 w A0 n0 c0 os) :
    Calls Tryz.prog 3 #[.int .i64 most, .slice A0 n0 c0] w fun e w' => e = .returned (.bool true) ∧ Below w.heap.size w w' := by
  have HO := Lib.hid ho
  have hn0 := ho.top
  clear ho
  go_enter Tryz.func3, Tryz.ntmps3
  go_wp2_with (fail)
  refine (head10_any w).mono ?_
  rintro e w0 ⟨rfl, hb0⟩
  have HB0 := Lib.hid hb0
  clear hb0
  go_wp2_with (fail)
  refine (new_any w0 most).mono ?_
  rintro e w1 ⟨d, rfl, hn⟩
  have HN := Lib.hid hn
  clear hn
  go_wp2_with (fail)
  refine (rnew_any w1 most).mono ?_
  rintro e w2 ⟨rfl, hrf, hg2⟩
  have ht := Two.new HN.out HB0.out.size HB0.out hrf hg2
  generalize w1.heap.size = r at ht
  have HT := Lib.hid ht
  have hg8 := great10_any A0 n0 c0 os w2 (HO.out.grow HT.out.low)
  have HG8 := Lib.hid hg8
  clear hg8 HN hrf hg2 ht
  go_wp2_with (fail)
  refine HG8.out.mono ?_
  rintro e w3 (⟨rfl, hg⟩ | ⟨rfl, hn100, hall, hg⟩)
  · have HZ := Lib.hid (HT.out.grow hg)
    clear hg
    go_wp2_with (fail)
    go_ret
    exact ⟨rfl, HZ.out.low⟩
  have HT1 := Lib.hid (HT.out.grow hg)
  have HALL := Lib.hid (And.intro hn100 hall)
  clear hg HT hall
  go_wp2_with (fail)
  go_loopw [8] (fun vi wr => ∃ (j : Nat) (m : Dk) (x : Rf), j ≤ n0 ∧ vi = .int .i64 (j : Nat) ∧ Hid (Two w.heap.size w wr d r (fun _ => False) m x) ∧ Hid (G2 (20 * j + 4 * o10all (os.take j)) m x)) (fun i _ => n0 - (intOf i).toNat)
  case atStart => exact ⟨0, Dk.new most, Rf.new most, Nat.zero_le _, rfl, HT1, Lib.hid ((G2.new most).mono (Nat.zero_le _))⟩
  case round =>
    obtain ⟨j, m, x, hj, rfl, HW, HG⟩ := hrel
    clear HT1
    by_cases hlt : j < n0
    · have hlt' : (j : Int) < (n0 : Int) := by omega
      have hj0 : (0 : Int) ≤ (j : Int) := by omega
      obtain ⟨ad, o, p, rfl, hblk, hoi, hat, hcs⟩ := HO.out.spot j hlt
      obtain ⟨q0, q1, q2, q3, q4, q5⟩ := o10_cells (by rw [add_block]; exact hblk) hcs HW.out.low
      have hbd : o10len o ≤ 9000 ∧ j ≤ 100 ∧ 20 * j + 4 * o10all (os.take j) + 20 + 4 * o10len o ≤ 20 * (j + 1) + 4 * o10all (os.take (j + 1)) ∧ 20 * (j + 1) + 4 * o10all (os.take (j + 1)) ≤ 50000 := by
        have h1 := o10all_one hoi
        have h2 := o10all_take os (j + 1)
        have h3 := HALL.out
        omega
      obtain ⟨K, hK⟩ : ∃ K, 20 * j + 4 * o10all (os.take j) = K := ⟨_, rfl⟩
      rw [hK] at hbd HG
      have hK5 : K ≤ 49980 := by omega
      have HLT := Lib.hid hlt
      obtain ⟨z, hz⟩ : ∃ z : Nat, o.bits = (z : Int) := ⟨o.bits.toNat, by have := hat.bits; omega⟩
      obtain ⟨what, y, nn, bytes, bits⟩ := o
      obtain ⟨MA, mn, mc, IA, im, ic⟩ := p
      dsimp only at q0 q1 q2 q3 q4 q5 hz
      subst hz
      have HBD := Lib.hid hbd
      have HAT := Lib.hid hat
      have HLS := Lib.hid (show mn ≤ o10len ⟨what, y, nn, bytes, (z : Int)⟩ by
        have h1 := hat.m.segs.len
        unfold o10len
        dsimp only at h1 ⊢
        omega)
      obtain ⟨ol, hol⟩ : ∃ ol, o10len (⟨what, y, nn, bytes, (z : Int)⟩ : O10) = ol := ⟨_, rfl⟩
      rw [hol] at HBD HLS
      clear hol
      have hol5 : K + 20 + 4 * ol ≤ 50000 := by have := HBD.out; omega
      have HZB := Lib.hid (show z < 4294967296 by have := hat.bits; dsimp only at this; omega)
      have hga := grows_alloc wr (.cells #[.int .i64 what, .slice MA mn mc, .int .i64 y.next, .int .i64 nn, .slice IA im ic, .int .u32 (z : Int)] 34)
      have hm0 := Whole.made wr 34 #[.int .i64 what, .slice MA mn mc, .int .i64 y.next, .int .i64 nn, .slice IA im ic, .int .u32 (z : Int)]
      have ht1 : Two w.heap.size w (wr.alloc (.cells #[.int .i64 what, .slice MA mn mc, .int .i64 y.next, .int .i64 nn, .slice IA im ic, .int .u32 (z : Int)] 34)) d r (fun k => k = wr.heap.size) m x := (HW.out.more hga).less fun k hk => .inr (by rw [World.size_alloc]; omega)
      obtain ⟨w1, hw1⟩ : ∃ q, wr.alloc (.cells #[.int .i64 what, .slice MA mn mc, .int .i64 y.next, .int .i64 nn, .slice IA im ic, .int .u32 (z : Int)] 34) = q := ⟨_, rfl⟩
      rw [hw1] at hm0 ht1
      have HT1 := Lib.hid ht1
      have HBX := Lib.hid hm0
      have u0 := hm0.cell 0
      have u1 := hm0.cell 1
      have u2 := hm0.cell 2
      have u3 := hm0.cell 3
      have u4 := hm0.cell 4
      have u5 := hm0.cell 5
      simp only [List.getElem?_toArray, List.getElem?_cons_zero, List.getElem?_cons_succ] at u0 u1 u2 u3 u4 u5
      clear hga hm0 ht1 hat hcs hoi hbd hblk hK
      by_cases h0 : what = 0
      · subst h0
        obtain ⟨⟨m1, v1⟩, hsp⟩ : ∃ q, saveP m y = q := ⟨_, rfl⟩
        have HSP := Lib.hid hsp
        have HD := Lib.hid (HT1.out.dop (v := .returned (.int .i64 v1)) (m' := m1) fun out' ho h => (msave_any w1 MA mn mc y (HAT.out.m.grow HT1.out.low) h HG.out.ok (by omega)).mono fun e w' hh => by rw [HSP.out] at hh; exact ⟨hh.1, hh.2.1, hh.2.2⟩)
        clear hsp
        go_wp2_with (fail)
        refine HD.out.mono ?_
        rintro e w2 ⟨rfl, ht2, hs2⟩
        have hbx := HBX.out.same (hs2.same _ HBX.out.lt fun e => e.2 rfl)
        have r0 := hbx.cell 0
        have r1 := hbx.cell 1
        have r2 := hbx.cell 2
        have r3 := hbx.cell 3
        have r4 := hbx.cell 4
        have r5 := hbx.cell 5
        simp only [List.getElem?_toArray, List.getElem?_cons_zero, List.getElem?_cons_succ] at r0 r1 r2 r3 r4 r5
        have hrs := rsave_any ht2 HG.out MA mn mc (by have := HBD.out; have := HLS.out; omega) y HAT.out.m (by have := HBD.out; have := HLS.out; omega)
        rw [HSP.out] at hrs
        have HR := Lib.hid hrs
        clear hs2 hbx HD hrs ht2
        go_wp2_with (fail)
        refine HR.out.mono ?_
        rintro e w3 ⟨rfl, ⟨x1, ht3, hg3⟩, hs3⟩
        dsimp only at hg3
        have HTL := Lib.hid ht3
        have HGL := Lib.hid (hg3.mono (show _ ≤ K + 20 + 4 * ol by have := HLS.out; omega))
        clear ht3 hs3 hg3 HR HSP
        dsimp only
        clear r0 r1 r2 r3 r4 r5
        obtain ⟨⟨lm, lb, le⟩, hld⟩ : ∃ q, loadP m1 = q := ⟨_, rfl⟩
        obtain ⟨od, hdk⟩ := HTL.out.dk
        have hl1 := mload_any w3 hdk HGL.out.ok (by omega)
        have hl2 := fun w' (hg : Grows w3 w') => rload_any w' (HTL.out.grow hg) HGL.out (by omega)
        rw [hld] at hl1
        simp only [hld] at hl2
        have HL1 := Lib.hid hl1
        have HL2 := Lib.hid hl2
        have HLM := Lib.hid (show lm.segs.length ≤ 1000 from by
          have := load_len m1
          rw [hld] at this
          exact this)
        clear hld hdk hl1 hl2
        go_wp2_with (fail)
        refine HL1.out.mono ?_
        rintro e wa ⟨A5, k5, c5, rfl, ho5, hg5⟩
        obtain ⟨ny, hny⟩ : ∃ z, lm.next = z := ⟨_, rfl⟩
        dsimp only at ho5
        have ga5 := grows_alloc wa (.cells #[.slice A5 k5 c5, .int .i64 ny] 31)
        have hm5 := Whole.made wa 31 #[.slice A5 k5 c5, .int .i64 ny]
        have hi5 := Ints.owned (owned_from (owned_grow ho5 ga5) (Nat.zero_le _))
        obtain ⟨wb, hwb⟩ : ∃ z, wa.alloc (.cells #[.slice A5 k5 c5, .int .i64 ny] 31) = z := ⟨_, rfl⟩
        rw [hwb] at ga5 hm5 hi5
        have HB5 := Lib.hid (And.intro (Grows.trans hg5 ga5) (And.intro hm5 hi5))
        have HL3 := Lib.hid (HL2.out wb (Grows.trans hg5 ga5))
        have HNY := Lib.hid hny
        dsimp only
        rw [hny]
        clear ho5 hg5 ga5 hm5 hi5 hny HL1 HL2
        go_wp2_with (fail)
        clear hwb
        refine HL3.out.mono ?_
        rintro e wc ⟨A6, k6, c6, rfl, ho6, hg6⟩
        dsimp only at ho6
        dsimp only
        rw [HNY.out]
        have ga6 := grows_alloc wc (.cells #[.slice A6 k6 c6, .int .i64 ny] 31)
        have hm6 := Whole.made wc 31 #[.slice A6 k6 c6, .int .i64 ny]
        have hi6 := Ints.owned (owned_from (owned_grow ho6 ga6) (Nat.zero_le _))
        obtain ⟨we, hwe⟩ : ∃ z, wc.alloc (.cells #[.slice A6 k6 c6, .int .i64 ny] 31) = z := ⟨_, rfl⟩
        rw [hwe] at ga6 hm6 hi6
        have hg56 := Grows.trans hg6 ga6
        have hm5 := hg56.whole HB5.out.2.1
        have s0 := hm5.cell 0
        have s1 := hm5.cell 1
        have s2 := hm6.cell 0
        have s3 := hm6.cell 1
        simp only [List.getElem?_toArray, List.getElem?_cons_zero, List.getElem?_cons_succ] at s0 s1 s2 s3
        have hsm := msame_any we A5 k5 c5 lm A6 k6 c6 lm (HB5.out.2.2.grow hg56) hi6 (by rw [← HB5.out.2.2.len]; have := HLM.out; omega)
        rw [decide_eq_true rfl, HNY.out] at hsm
        have HSM := Lib.hid hsm
        have HTE := Lib.hid (HTL.out.grow (HB5.out.1.trans hg56))
        clear ho6 hg6 ga6 hm6 hi6 hg56 hm5 hsm HL3 HB5
        go_wp2_with (fail)
        clear hwe
        refine HSM.out.mono ?_
        rintro e wf ⟨rfl, hgf⟩
        have HTF := Lib.hid (HTE.out.grow hgf)
        clear hgf HSM s0 s1 s2 s3
        obtain ⟨nm, hnn⟩ : ∃ nm, m1.names.length = nm := ⟨_, rfl⟩
        obtain ⟨ns, hns⟩ : ∃ ns, m1.names.map (·.1) = ns := ⟨_, rfl⟩
        have HNL := Lib.hid (show ns.length = nm ∧ nm ≤ 100000 ∧ ∀ u ∈ ns, u.length ≤ 16 from by
          refine ⟨by rw [← hns, List.length_map]; exact hnn, by rw [← hnn]; exact Nat.le_trans HGL.out.ok.names (by omega), fun u hu => ?_⟩
          rw [← hns] at hu
          obtain ⟨p, hp, rfl⟩ := List.mem_map.1 hu
          exact HGL.out.names p hp)
        have hl := HTF.out.list HGL.out (by omega)
        have hlr := fun w' (hg : Grows wf w') => (HTF.out.grow hg).listR HGL.out (by omega)
        rw [hnn, hns] at hl
        simp only [hnn, hns] at hlr
        have HL := Lib.hid hl
        have HLR := Lib.hid hlr
        have HU := Lib.hid (fun w' (hg : Grows wf w') => (HTF.out.grow hg).used)
        have HUR := Lib.hid (fun w' (hg : Grows wf w') => (HTF.out.grow hg).usedR HGL.out (by omega))
        have HO1 := Lib.hid (fun w' (hg : Grows wf w') => (HTF.out.grow hg).done)
        have HOR := Lib.hid (fun w' (hg : Grows wf w') => (HTF.out.grow hg).doneR HGL.out)
        obtain ⟨us, hus⟩ : ∃ us, m1.used = us := ⟨_, rfl⟩
        obtain ⟨dd, hdd⟩ : ∃ dd, m1.done = dd := ⟨_, rfl⟩
        rw [hus] at HU HUR
        rw [hdd] at HO1 HOR
        clear hl hlr hnn hns hus hdd
        go_wp2_with (fail)
        refine HL.out.mono ?_
        rintro e x1' ⟨LA, lc, rfl, hr1, hg1⟩
        have H1 := Lib.hid (And.intro hr1 hg1)
        clear hr1 hg1
        go_wp2_with (fail)
        refine (HLR.out x1' H1.out.2).mono ?_
        rintro e x2 ⟨LB, ld, rfl, hr2, hg2⟩
        have H2 := Lib.hid (Grows.trans H1.out.2 hg2)
        have hs := same_names LA nm lc LB nm ld ns ns x2 (hg2.row H1.out.1) hr2 (by have := HNL.out; omega)
        rw [decide_eq_true (Eq.refl ns)] at hs
        have HS := Lib.hid hs
        clear hr2 hg2 hs
        go_wp2_with (fail)
        refine HS.out.mono ?_
        rintro e x3 ⟨rfl, hg3⟩
        have G3 := Lib.hid (Grows.trans H2.out hg3)
        clear hg3
        go_wp2_with (fail)
        refine (HU.out x3 G3.out).mono ?_
        rintro e x4 ⟨rfl, rfl⟩
        go_wp2_with (fail)
        refine (HUR.out x3 G3.out).mono ?_
        rintro e x4 ⟨rfl, hg4⟩
        have G4 := Lib.hid (Grows.trans G3.out hg4)
        clear hg4
        go_wp2_with (fail)
        refine (HO1.out x4 G4.out).mono ?_
        rintro e x5 ⟨rfl, rfl⟩
        go_wp2_with (fail)
        refine (HOR.out x4 G4.out).mono ?_
        rintro e x5 ⟨rfl, rfl⟩
        go_wp2_with (fail)
        exact ⟨⟨j + 1, m1, x1, HLT.out, rfl, Lib.hid ((HTF.out.grow G4.out).less fun k hk => hk.elim), Lib.hid (HGL.out.mono HBD.out.2.2.1)⟩, less_one HLT.out⟩
      by_cases h1 : what = 1
      · subst h1
        obtain ⟨⟨m1, v1⟩, hsp⟩ : ∃ q, saveP m y = q := ⟨_, rfl⟩
        have HSP := Lib.hid hsp
        have HD := Lib.hid (HT1.out.dop (v := .returned (.int .i64 v1)) (m' := m1) fun out' ho h => (msave_any w1 MA mn mc y (HAT.out.m.grow HT1.out.low) h HG.out.ok (by omega)).mono fun e w' hh => by rw [HSP.out] at hh; exact ⟨hh.1, hh.2.1, hh.2.2⟩)
        clear hsp
        go_wp2_with (fail)
        refine HD.out.mono ?_
        rintro e w2 ⟨rfl, ht2, hs2⟩
        have hbx := HBX.out.same (hs2.same _ HBX.out.lt fun e => e.2 rfl)
        have r0 := hbx.cell 0
        have r1 := hbx.cell 1
        have r2 := hbx.cell 2
        have r3 := hbx.cell 3
        have r4 := hbx.cell 4
        have r5 := hbx.cell 5
        simp only [List.getElem?_toArray, List.getElem?_cons_zero, List.getElem?_cons_succ] at r0 r1 r2 r3 r4 r5
        have hrs := rsave_any ht2 HG.out MA mn mc (by have := HBD.out; have := HLS.out; omega) y HAT.out.m (by have := HBD.out; have := HLS.out; omega)
        rw [HSP.out] at hrs
        have HR := Lib.hid hrs
        clear hs2 hbx HD hrs ht2
        go_wp2_with (fail)
        refine HR.out.mono ?_
        rintro e w3 ⟨rfl, ⟨x1, ht3, hg3⟩, hs3⟩
        dsimp only at hg3
        have HTL := Lib.hid ht3
        have HGL := Lib.hid (hg3.mono (show _ ≤ K + 20 + 4 * ol by have := HLS.out; omega))
        clear ht3 hs3 hg3 HR HSP
        dsimp only
        clear r0 r1 r2 r3 r4 r5
        obtain ⟨⟨lm, lb, le⟩, hld⟩ : ∃ q, loadP m1 = q := ⟨_, rfl⟩
        obtain ⟨od, hdk⟩ := HTL.out.dk
        have hl1 := mload_any w3 hdk HGL.out.ok (by omega)
        have hl2 := fun w' (hg : Grows w3 w') => rload_any w' (HTL.out.grow hg) HGL.out (by omega)
        rw [hld] at hl1
        simp only [hld] at hl2
        have HL1 := Lib.hid hl1
        have HL2 := Lib.hid hl2
        have HLM := Lib.hid (show lm.segs.length ≤ 1000 from by
          have := load_len m1
          rw [hld] at this
          exact this)
        clear hld hdk hl1 hl2
        go_wp2_with (fail)
        refine HL1.out.mono ?_
        rintro e wa ⟨A5, k5, c5, rfl, ho5, hg5⟩
        obtain ⟨ny, hny⟩ : ∃ z, lm.next = z := ⟨_, rfl⟩
        dsimp only at ho5
        have ga5 := grows_alloc wa (.cells #[.slice A5 k5 c5, .int .i64 ny] 31)
        have hm5 := Whole.made wa 31 #[.slice A5 k5 c5, .int .i64 ny]
        have hi5 := Ints.owned (owned_from (owned_grow ho5 ga5) (Nat.zero_le _))
        obtain ⟨wb, hwb⟩ : ∃ z, wa.alloc (.cells #[.slice A5 k5 c5, .int .i64 ny] 31) = z := ⟨_, rfl⟩
        rw [hwb] at ga5 hm5 hi5
        have HB5 := Lib.hid (And.intro (Grows.trans hg5 ga5) (And.intro hm5 hi5))
        have HL3 := Lib.hid (HL2.out wb (Grows.trans hg5 ga5))
        have HNY := Lib.hid hny
        dsimp only
        rw [hny]
        clear ho5 hg5 ga5 hm5 hi5 hny HL1 HL2
        go_wp2_with (fail)
        clear hwb
        refine HL3.out.mono ?_
        rintro e wc ⟨A6, k6, c6, rfl, ho6, hg6⟩
        dsimp only at ho6
        dsimp only
        rw [HNY.out]
        have ga6 := grows_alloc wc (.cells #[.slice A6 k6 c6, .int .i64 ny] 31)
        have hm6 := Whole.made wc 31 #[.slice A6 k6 c6, .int .i64 ny]
        have hi6 := Ints.owned (owned_from (owned_grow ho6 ga6) (Nat.zero_le _))
        obtain ⟨we, hwe⟩ : ∃ z, wc.alloc (.cells #[.slice A6 k6 c6, .int .i64 ny] 31) = z := ⟨_, rfl⟩
        rw [hwe] at ga6 hm6 hi6
        have hg56 := Grows.trans hg6 ga6
        have hm5 := hg56.whole HB5.out.2.1
        have s0 := hm5.cell 0
        have s1 := hm5.cell 1
        have s2 := hm6.cell 0
        have s3 := hm6.cell 1
        simp only [List.getElem?_toArray, List.getElem?_cons_zero, List.getElem?_cons_succ] at s0 s1 s2 s3
        have hsm := msame_any we A5 k5 c5 lm A6 k6 c6 lm (HB5.out.2.2.grow hg56) hi6 (by rw [← HB5.out.2.2.len]; have := HLM.out; omega)
        rw [decide_eq_true rfl, HNY.out] at hsm
        have HSM := Lib.hid hsm
        have HTE := Lib.hid (HTL.out.grow (HB5.out.1.trans hg56))
        clear ho6 hg6 ga6 hm6 hi6 hg56 hm5 hsm HL3 HB5
        go_wp2_with (fail)
        clear hwe
        refine HSM.out.mono ?_
        rintro e wf ⟨rfl, hgf⟩
        have HTF := Lib.hid (HTE.out.grow hgf)
        clear hgf HSM s0 s1 s2 s3
        obtain ⟨nm, hnn⟩ : ∃ nm, m1.names.length = nm := ⟨_, rfl⟩
        obtain ⟨ns, hns⟩ : ∃ ns, m1.names.map (·.1) = ns := ⟨_, rfl⟩
        have HNL := Lib.hid (show ns.length = nm ∧ nm ≤ 100000 ∧ ∀ u ∈ ns, u.length ≤ 16 from by
          refine ⟨by rw [← hns, List.length_map]; exact hnn, by rw [← hnn]; exact Nat.le_trans HGL.out.ok.names (by omega), fun u hu => ?_⟩
          rw [← hns] at hu
          obtain ⟨p, hp, rfl⟩ := List.mem_map.1 hu
          exact HGL.out.names p hp)
        have hl := HTF.out.list HGL.out (by omega)
        have hlr := fun w' (hg : Grows wf w') => (HTF.out.grow hg).listR HGL.out (by omega)
        rw [hnn, hns] at hl
        simp only [hnn, hns] at hlr
        have HL := Lib.hid hl
        have HLR := Lib.hid hlr
        have HU := Lib.hid (fun w' (hg : Grows wf w') => (HTF.out.grow hg).used)
        have HUR := Lib.hid (fun w' (hg : Grows wf w') => (HTF.out.grow hg).usedR HGL.out (by omega))
        have HO1 := Lib.hid (fun w' (hg : Grows wf w') => (HTF.out.grow hg).done)
        have HOR := Lib.hid (fun w' (hg : Grows wf w') => (HTF.out.grow hg).doneR HGL.out)
        obtain ⟨us, hus⟩ : ∃ us, m1.used = us := ⟨_, rfl⟩
        obtain ⟨dd, hdd⟩ : ∃ dd, m1.done = dd := ⟨_, rfl⟩
        rw [hus] at HU HUR
        rw [hdd] at HO1 HOR
        clear hl hlr hnn hns hus hdd
        go_wp2_with (fail)
        refine HL.out.mono ?_
        rintro e x1' ⟨LA, lc, rfl, hr1, hg1⟩
        have H1 := Lib.hid (And.intro hr1 hg1)
        clear hr1 hg1
        go_wp2_with (fail)
        refine (HLR.out x1' H1.out.2).mono ?_
        rintro e x2 ⟨LB, ld, rfl, hr2, hg2⟩
        have H2 := Lib.hid (Grows.trans H1.out.2 hg2)
        have hs := same_names LA nm lc LB nm ld ns ns x2 (hg2.row H1.out.1) hr2 (by have := HNL.out; omega)
        rw [decide_eq_true (Eq.refl ns)] at hs
        have HS := Lib.hid hs
        clear hr2 hg2 hs
        go_wp2_with (fail)
        refine HS.out.mono ?_
        rintro e x3 ⟨rfl, hg3⟩
        have G3 := Lib.hid (Grows.trans H2.out hg3)
        clear hg3
        go_wp2_with (fail)
        refine (HU.out x3 G3.out).mono ?_
        rintro e x4 ⟨rfl, rfl⟩
        go_wp2_with (fail)
        refine (HUR.out x3 G3.out).mono ?_
        rintro e x4 ⟨rfl, hg4⟩
        have G4 := Lib.hid (Grows.trans G3.out hg4)
        clear hg4
        go_wp2_with (fail)
        refine (HO1.out x4 G4.out).mono ?_
        rintro e x5 ⟨rfl, rfl⟩
        go_wp2_with (fail)
        refine (HOR.out x4 G4.out).mono ?_
        rintro e x5 ⟨rfl, rfl⟩
        go_wp2_with (fail)
        exact ⟨⟨j + 1, m1, x1, HLT.out, rfl, Lib.hid ((HTF.out.grow G4.out).less fun k hk => hk.elim), Lib.hid (HGL.out.mono HBD.out.2.2.1)⟩, less_one HLT.out⟩
      by_cases h3 : what = 3
      · subst h3
        have hg1 := HG.out.fails nn HAT.out.n.2
        obtain ⟨m1, hm1⟩ : ∃ q, m.setFail nn = q := ⟨_, rfl⟩
        have HD := Lib.hid (HT1.out.dop (v := .returned (.tuple #[])) (m' := m1) fun out' ho h => hm1 ▸ fail_in nn h)
        have HGX := Lib.hid hg1
        rw [hm1] at HGX
        clear hg1
        go_wp2_with (fail)
        refine HD.out.mono ?_
        rintro e w2 ⟨rfl, ht2, hs2⟩
        have hbx := HBX.out.same (hs2.same _ HBX.out.lt fun e => e.2 rfl)
        have r0 := hbx.cell 0
        have r1 := hbx.cell 1
        have r2 := hbx.cell 2
        have r3 := hbx.cell 3
        have r4 := hbx.cell 4
        have r5 := hbx.cell 5
        simp only [List.getElem?_toArray, List.getElem?_cons_zero, List.getElem?_cons_succ] at r0 r1 r2 r3 r4 r5
        have HR := Lib.hid (ht2.rop (v := .returned (.tuple #[])) (x' := x.setFail nn) fun ro fv nv kv pv k1 k2 => rfail_any _ nn k1)
        clear hs2 hbx HD
        go_wp2_with (fail)
        refine HR.out.mono ?_
        rintro e w3 ⟨rfl, ht3, hs3⟩
        obtain ⟨x1, hx1⟩ : ∃ q, x.setFail nn = q := ⟨_, rfl⟩
        rw [hx1] at ht3 HGX
        have HTL := Lib.hid ht3
        have HGL := Lib.hid (HGX.out.mono (show _ ≤ K + 20 + 4 * ol by omega))
        clear ht2 ht3 hs3 hx1 hm1 HR HGX
        clear r0 r1 r2 r3 r4 r5
        obtain ⟨⟨lm, lb, le⟩, hld⟩ : ∃ q, loadP m1 = q := ⟨_, rfl⟩
        obtain ⟨od, hdk⟩ := HTL.out.dk
        have hl1 := mload_any w3 hdk HGL.out.ok (by omega)
        have hl2 := fun w' (hg : Grows w3 w') => rload_any w' (HTL.out.grow hg) HGL.out (by omega)
        rw [hld] at hl1
        simp only [hld] at hl2
        have HL1 := Lib.hid hl1
        have HL2 := Lib.hid hl2
        have HLM := Lib.hid (show lm.segs.length ≤ 1000 from by
          have := load_len m1
          rw [hld] at this
          exact this)
        clear hld hdk hl1 hl2
        go_wp2_with (fail)
        refine HL1.out.mono ?_
        rintro e wa ⟨A5, k5, c5, rfl, ho5, hg5⟩
        obtain ⟨ny, hny⟩ : ∃ z, lm.next = z := ⟨_, rfl⟩
        dsimp only at ho5
        have ga5 := grows_alloc wa (.cells #[.slice A5 k5 c5, .int .i64 ny] 31)
        have hm5 := Whole.made wa 31 #[.slice A5 k5 c5, .int .i64 ny]
        have hi5 := Ints.owned (owned_from (owned_grow ho5 ga5) (Nat.zero_le _))
        obtain ⟨wb, hwb⟩ : ∃ z, wa.alloc (.cells #[.slice A5 k5 c5, .int .i64 ny] 31) = z := ⟨_, rfl⟩
        rw [hwb] at ga5 hm5 hi5
        have HB5 := Lib.hid (And.intro (Grows.trans hg5 ga5) (And.intro hm5 hi5))
        have HL3 := Lib.hid (HL2.out wb (Grows.trans hg5 ga5))
        have HNY := Lib.hid hny
        dsimp only
        rw [hny]
        clear ho5 hg5 ga5 hm5 hi5 hny HL1 HL2
        go_wp2_with (fail)
        clear hwb
        refine HL3.out.mono ?_
        rintro e wc ⟨A6, k6, c6, rfl, ho6, hg6⟩
        dsimp only at ho6
        dsimp only
        rw [HNY.out]
        have ga6 := grows_alloc wc (.cells #[.slice A6 k6 c6, .int .i64 ny] 31)
        have hm6 := Whole.made wc 31 #[.slice A6 k6 c6, .int .i64 ny]
        have hi6 := Ints.owned (owned_from (owned_grow ho6 ga6) (Nat.zero_le _))
        obtain ⟨we, hwe⟩ : ∃ z, wc.alloc (.cells #[.slice A6 k6 c6, .int .i64 ny] 31) = z := ⟨_, rfl⟩
        rw [hwe] at ga6 hm6 hi6
        have hg56 := Grows.trans hg6 ga6
        have hm5 := hg56.whole HB5.out.2.1
        have s0 := hm5.cell 0
        have s1 := hm5.cell 1
        have s2 := hm6.cell 0
        have s3 := hm6.cell 1
        simp only [List.getElem?_toArray, List.getElem?_cons_zero, List.getElem?_cons_succ] at s0 s1 s2 s3
        have hsm := msame_any we A5 k5 c5 lm A6 k6 c6 lm (HB5.out.2.2.grow hg56) hi6 (by rw [← HB5.out.2.2.len]; have := HLM.out; omega)
        rw [decide_eq_true rfl, HNY.out] at hsm
        have HSM := Lib.hid hsm
        have HTE := Lib.hid (HTL.out.grow (HB5.out.1.trans hg56))
        clear ho6 hg6 ga6 hm6 hi6 hg56 hm5 hsm HL3 HB5
        go_wp2_with (fail)
        clear hwe
        refine HSM.out.mono ?_
        rintro e wf ⟨rfl, hgf⟩
        have HTF := Lib.hid (HTE.out.grow hgf)
        clear hgf HSM s0 s1 s2 s3
        obtain ⟨nm, hnn⟩ : ∃ nm, m1.names.length = nm := ⟨_, rfl⟩
        obtain ⟨ns, hns⟩ : ∃ ns, m1.names.map (·.1) = ns := ⟨_, rfl⟩
        have HNL := Lib.hid (show ns.length = nm ∧ nm ≤ 100000 ∧ ∀ u ∈ ns, u.length ≤ 16 from by
          refine ⟨by rw [← hns, List.length_map]; exact hnn, by rw [← hnn]; exact Nat.le_trans HGL.out.ok.names (by omega), fun u hu => ?_⟩
          rw [← hns] at hu
          obtain ⟨p, hp, rfl⟩ := List.mem_map.1 hu
          exact HGL.out.names p hp)
        have hl := HTF.out.list HGL.out (by omega)
        have hlr := fun w' (hg : Grows wf w') => (HTF.out.grow hg).listR HGL.out (by omega)
        rw [hnn, hns] at hl
        simp only [hnn, hns] at hlr
        have HL := Lib.hid hl
        have HLR := Lib.hid hlr
        have HU := Lib.hid (fun w' (hg : Grows wf w') => (HTF.out.grow hg).used)
        have HUR := Lib.hid (fun w' (hg : Grows wf w') => (HTF.out.grow hg).usedR HGL.out (by omega))
        have HO1 := Lib.hid (fun w' (hg : Grows wf w') => (HTF.out.grow hg).done)
        have HOR := Lib.hid (fun w' (hg : Grows wf w') => (HTF.out.grow hg).doneR HGL.out)
        obtain ⟨us, hus⟩ : ∃ us, m1.used = us := ⟨_, rfl⟩
        obtain ⟨dd, hdd⟩ : ∃ dd, m1.done = dd := ⟨_, rfl⟩
        rw [hus] at HU HUR
        rw [hdd] at HO1 HOR
        clear hl hlr hnn hns hus hdd
        go_wp2_with (fail)
        refine HL.out.mono ?_
        rintro e x1' ⟨LA, lc, rfl, hr1, hg1⟩
        have H1 := Lib.hid (And.intro hr1 hg1)
        clear hr1 hg1
        go_wp2_with (fail)
        refine (HLR.out x1' H1.out.2).mono ?_
        rintro e x2 ⟨LB, ld, rfl, hr2, hg2⟩
        have H2 := Lib.hid (Grows.trans H1.out.2 hg2)
        have hs := same_names LA nm lc LB nm ld ns ns x2 (hg2.row H1.out.1) hr2 (by have := HNL.out; omega)
        rw [decide_eq_true (Eq.refl ns)] at hs
        have HS := Lib.hid hs
        clear hr2 hg2 hs
        go_wp2_with (fail)
        refine HS.out.mono ?_
        rintro e x3 ⟨rfl, hg3⟩
        have G3 := Lib.hid (Grows.trans H2.out hg3)
        clear hg3
        go_wp2_with (fail)
        refine (HU.out x3 G3.out).mono ?_
        rintro e x4 ⟨rfl, rfl⟩
        go_wp2_with (fail)
        refine (HUR.out x3 G3.out).mono ?_
        rintro e x4 ⟨rfl, hg4⟩
        have G4 := Lib.hid (Grows.trans G3.out hg4)
        clear hg4
        go_wp2_with (fail)
        refine (HO1.out x4 G4.out).mono ?_
        rintro e x5 ⟨rfl, rfl⟩
        go_wp2_with (fail)
        refine (HOR.out x4 G4.out).mono ?_
        rintro e x5 ⟨rfl, rfl⟩
        go_wp2_with (fail)
        exact ⟨⟨j + 1, m1, x1, HLT.out, rfl, Lib.hid ((HTF.out.grow G4.out).less fun k hk => hk.elim), Lib.hid (HGL.out.mono HBD.out.2.2.1)⟩, less_one HLT.out⟩
      by_cases h4 : what = 4
      · subst h4
        have hg1 := HG.out.cuts nn HAT.out.n.2
        obtain ⟨m1, hm1⟩ : ∃ q, m.setCut nn = q := ⟨_, rfl⟩
        have HD := Lib.hid (HT1.out.dop (v := .returned (.tuple #[])) (m' := m1) fun out' ho h => hm1 ▸ cut_in nn h)
        have HGX := Lib.hid hg1
        rw [hm1] at HGX
        clear hg1
        go_wp2_with (fail)
        refine HD.out.mono ?_
        rintro e w2 ⟨rfl, ht2, hs2⟩
        have hbx := HBX.out.same (hs2.same _ HBX.out.lt fun e => e.2 rfl)
        have r0 := hbx.cell 0
        have r1 := hbx.cell 1
        have r2 := hbx.cell 2
        have r3 := hbx.cell 3
        have r4 := hbx.cell 4
        have r5 := hbx.cell 5
        simp only [List.getElem?_toArray, List.getElem?_cons_zero, List.getElem?_cons_succ] at r0 r1 r2 r3 r4 r5
        have HR := Lib.hid (ht2.rop (v := .returned (.tuple #[])) (x' := x.setCut nn) fun ro fv nv kv pv k1 k2 => rcut_any _ nn k1)
        clear hs2 hbx HD
        go_wp2_with (fail)
        refine HR.out.mono ?_
        rintro e w3 ⟨rfl, ht3, hs3⟩
        obtain ⟨x1, hx1⟩ : ∃ q, x.setCut nn = q := ⟨_, rfl⟩
        rw [hx1] at ht3 HGX
        have HTL := Lib.hid ht3
        have HGL := Lib.hid (HGX.out.mono (show _ ≤ K + 20 + 4 * ol by omega))
        clear ht2 ht3 hs3 hx1 hm1 HR HGX
        clear r0 r1 r2 r3 r4 r5
        obtain ⟨⟨lm, lb, le⟩, hld⟩ : ∃ q, loadP m1 = q := ⟨_, rfl⟩
        obtain ⟨od, hdk⟩ := HTL.out.dk
        have hl1 := mload_any w3 hdk HGL.out.ok (by omega)
        have hl2 := fun w' (hg : Grows w3 w') => rload_any w' (HTL.out.grow hg) HGL.out (by omega)
        rw [hld] at hl1
        simp only [hld] at hl2
        have HL1 := Lib.hid hl1
        have HL2 := Lib.hid hl2
        have HLM := Lib.hid (show lm.segs.length ≤ 1000 from by
          have := load_len m1
          rw [hld] at this
          exact this)
        clear hld hdk hl1 hl2
        go_wp2_with (fail)
        refine HL1.out.mono ?_
        rintro e wa ⟨A5, k5, c5, rfl, ho5, hg5⟩
        obtain ⟨ny, hny⟩ : ∃ z, lm.next = z := ⟨_, rfl⟩
        dsimp only at ho5
        have ga5 := grows_alloc wa (.cells #[.slice A5 k5 c5, .int .i64 ny] 31)
        have hm5 := Whole.made wa 31 #[.slice A5 k5 c5, .int .i64 ny]
        have hi5 := Ints.owned (owned_from (owned_grow ho5 ga5) (Nat.zero_le _))
        obtain ⟨wb, hwb⟩ : ∃ z, wa.alloc (.cells #[.slice A5 k5 c5, .int .i64 ny] 31) = z := ⟨_, rfl⟩
        rw [hwb] at ga5 hm5 hi5
        have HB5 := Lib.hid (And.intro (Grows.trans hg5 ga5) (And.intro hm5 hi5))
        have HL3 := Lib.hid (HL2.out wb (Grows.trans hg5 ga5))
        have HNY := Lib.hid hny
        dsimp only
        rw [hny]
        clear ho5 hg5 ga5 hm5 hi5 hny HL1 HL2
        go_wp2_with (fail)
        clear hwb
        refine HL3.out.mono ?_
        rintro e wc ⟨A6, k6, c6, rfl, ho6, hg6⟩
        dsimp only at ho6
        dsimp only
        rw [HNY.out]
        have ga6 := grows_alloc wc (.cells #[.slice A6 k6 c6, .int .i64 ny] 31)
        have hm6 := Whole.made wc 31 #[.slice A6 k6 c6, .int .i64 ny]
        have hi6 := Ints.owned (owned_from (owned_grow ho6 ga6) (Nat.zero_le _))
        obtain ⟨we, hwe⟩ : ∃ z, wc.alloc (.cells #[.slice A6 k6 c6, .int .i64 ny] 31) = z := ⟨_, rfl⟩
        rw [hwe] at ga6 hm6 hi6
        have hg56 := Grows.trans hg6 ga6
        have hm5 := hg56.whole HB5.out.2.1
        have s0 := hm5.cell 0
        have s1 := hm5.cell 1
        have s2 := hm6.cell 0
        have s3 := hm6.cell 1
        simp only [List.getElem?_toArray, List.getElem?_cons_zero, List.getElem?_cons_succ] at s0 s1 s2 s3
        have hsm := msame_any we A5 k5 c5 lm A6 k6 c6 lm (HB5.out.2.2.grow hg56) hi6 (by rw [← HB5.out.2.2.len]; have := HLM.out; omega)
        rw [decide_eq_true rfl, HNY.out] at hsm
        have HSM := Lib.hid hsm
        have HTE := Lib.hid (HTL.out.grow (HB5.out.1.trans hg56))
        clear ho6 hg6 ga6 hm6 hi6 hg56 hm5 hsm HL3 HB5
        go_wp2_with (fail)
        clear hwe
        refine HSM.out.mono ?_
        rintro e wf ⟨rfl, hgf⟩
        have HTF := Lib.hid (HTE.out.grow hgf)
        clear hgf HSM s0 s1 s2 s3
        obtain ⟨nm, hnn⟩ : ∃ nm, m1.names.length = nm := ⟨_, rfl⟩
        obtain ⟨ns, hns⟩ : ∃ ns, m1.names.map (·.1) = ns := ⟨_, rfl⟩
        have HNL := Lib.hid (show ns.length = nm ∧ nm ≤ 100000 ∧ ∀ u ∈ ns, u.length ≤ 16 from by
          refine ⟨by rw [← hns, List.length_map]; exact hnn, by rw [← hnn]; exact Nat.le_trans HGL.out.ok.names (by omega), fun u hu => ?_⟩
          rw [← hns] at hu
          obtain ⟨p, hp, rfl⟩ := List.mem_map.1 hu
          exact HGL.out.names p hp)
        have hl := HTF.out.list HGL.out (by omega)
        have hlr := fun w' (hg : Grows wf w') => (HTF.out.grow hg).listR HGL.out (by omega)
        rw [hnn, hns] at hl
        simp only [hnn, hns] at hlr
        have HL := Lib.hid hl
        have HLR := Lib.hid hlr
        have HU := Lib.hid (fun w' (hg : Grows wf w') => (HTF.out.grow hg).used)
        have HUR := Lib.hid (fun w' (hg : Grows wf w') => (HTF.out.grow hg).usedR HGL.out (by omega))
        have HO1 := Lib.hid (fun w' (hg : Grows wf w') => (HTF.out.grow hg).done)
        have HOR := Lib.hid (fun w' (hg : Grows wf w') => (HTF.out.grow hg).doneR HGL.out)
        obtain ⟨us, hus⟩ : ∃ us, m1.used = us := ⟨_, rfl⟩
        obtain ⟨dd, hdd⟩ : ∃ dd, m1.done = dd := ⟨_, rfl⟩
        rw [hus] at HU HUR
        rw [hdd] at HO1 HOR
        clear hl hlr hnn hns hus hdd
        go_wp2_with (fail)
        refine HL.out.mono ?_
        rintro e x1' ⟨LA, lc, rfl, hr1, hg1⟩
        have H1 := Lib.hid (And.intro hr1 hg1)
        clear hr1 hg1
        go_wp2_with (fail)
        refine (HLR.out x1' H1.out.2).mono ?_
        rintro e x2 ⟨LB, ld, rfl, hr2, hg2⟩
        have H2 := Lib.hid (Grows.trans H1.out.2 hg2)
        have hs := same_names LA nm lc LB nm ld ns ns x2 (hg2.row H1.out.1) hr2 (by have := HNL.out; omega)
        rw [decide_eq_true (Eq.refl ns)] at hs
        have HS := Lib.hid hs
        clear hr2 hg2 hs
        go_wp2_with (fail)
        refine HS.out.mono ?_
        rintro e x3 ⟨rfl, hg3⟩
        have G3 := Lib.hid (Grows.trans H2.out hg3)
        clear hg3
        go_wp2_with (fail)
        refine (HU.out x3 G3.out).mono ?_
        rintro e x4 ⟨rfl, rfl⟩
        go_wp2_with (fail)
        refine (HUR.out x3 G3.out).mono ?_
        rintro e x4 ⟨rfl, hg4⟩
        have G4 := Lib.hid (Grows.trans G3.out hg4)
        clear hg4
        go_wp2_with (fail)
        refine (HO1.out x4 G4.out).mono ?_
        rintro e x5 ⟨rfl, rfl⟩
        go_wp2_with (fail)
        refine (HOR.out x4 G4.out).mono ?_
        rintro e x5 ⟨rfl, rfl⟩
        go_wp2_with (fail)
        exact ⟨⟨j + 1, m1, x1, HLT.out, rfl, Lib.hid ((HTF.out.grow G4.out).less fun k hk => hk.elim), Lib.hid (HGL.out.mono HBD.out.2.2.1)⟩, less_one HLT.out⟩
      by_cases h5 : what = 5
      · subst h5
        have hg1 := HG.out.boot (by omega) nn bytes
        obtain ⟨m1, hm1⟩ : ∃ q, m.boot nn bytes = q := ⟨_, rfl⟩
        have HD := Lib.hid (HT1.out.dop (v := .returned (.tuple #[])) (m' := m1) fun out' ho h => hm1 ▸ boot_in nn h HG.out.ok (by omega) (HAT.out.bytes.grow h.low) HAT.out.each (fun ad e hne => .inl (Ints.block HAT.out.bytes ad e hne)))
        have HGX := Lib.hid hg1
        rw [hm1] at HGX
        clear hg1
        go_wp2_with (fail)
        refine HD.out.mono ?_
        rintro e w2 ⟨rfl, ht2, hs2⟩
        have hbx := HBX.out.same (hs2.same _ HBX.out.lt fun e => e.2 rfl)
        have r0 := hbx.cell 0
        have r1 := hbx.cell 1
        have r2 := hbx.cell 2
        have r3 := hbx.cell 3
        have r4 := hbx.cell 4
        have r5 := hbx.cell 5
        simp only [List.getElem?_toArray, List.getElem?_cons_zero, List.getElem?_cons_succ] at r0 r1 r2 r3 r4 r5
        have HR := Lib.hid (ht2.rop (v := .returned (.tuple #[])) (x' := x.boot nn bytes) fun ro fv nv kv pv k1 k2 => rboot_any _ nn bytes k1 (HG.out.fit (by omega)) (HG.out.sum (by omega)) (HAT.out.bytes.grow ht2.low) HAT.out.each)
        clear hs2 hbx HD
        go_wp2_with (fail)
        refine HR.out.mono ?_
        rintro e w3 ⟨rfl, ht3, hs3⟩
        obtain ⟨x1, hx1⟩ : ∃ q, x.boot nn bytes = q := ⟨_, rfl⟩
        rw [hx1] at ht3 HGX
        have HTL := Lib.hid ht3
        have HGL := Lib.hid (HGX.out.mono (show _ ≤ K + 20 + 4 * ol by omega))
        clear ht2 ht3 hs3 hx1 hm1 HR HGX
        clear r0 r1 r2 r3 r4 r5
        obtain ⟨⟨lm, lb, le⟩, hld⟩ : ∃ q, loadP m1 = q := ⟨_, rfl⟩
        obtain ⟨od, hdk⟩ := HTL.out.dk
        have hl1 := mload_any w3 hdk HGL.out.ok (by omega)
        have hl2 := fun w' (hg : Grows w3 w') => rload_any w' (HTL.out.grow hg) HGL.out (by omega)
        rw [hld] at hl1
        simp only [hld] at hl2
        have HL1 := Lib.hid hl1
        have HL2 := Lib.hid hl2
        have HLM := Lib.hid (show lm.segs.length ≤ 1000 from by
          have := load_len m1
          rw [hld] at this
          exact this)
        clear hld hdk hl1 hl2
        go_wp2_with (fail)
        refine HL1.out.mono ?_
        rintro e wa ⟨A5, k5, c5, rfl, ho5, hg5⟩
        obtain ⟨ny, hny⟩ : ∃ z, lm.next = z := ⟨_, rfl⟩
        dsimp only at ho5
        have ga5 := grows_alloc wa (.cells #[.slice A5 k5 c5, .int .i64 ny] 31)
        have hm5 := Whole.made wa 31 #[.slice A5 k5 c5, .int .i64 ny]
        have hi5 := Ints.owned (owned_from (owned_grow ho5 ga5) (Nat.zero_le _))
        obtain ⟨wb, hwb⟩ : ∃ z, wa.alloc (.cells #[.slice A5 k5 c5, .int .i64 ny] 31) = z := ⟨_, rfl⟩
        rw [hwb] at ga5 hm5 hi5
        have HB5 := Lib.hid (And.intro (Grows.trans hg5 ga5) (And.intro hm5 hi5))
        have HL3 := Lib.hid (HL2.out wb (Grows.trans hg5 ga5))
        have HNY := Lib.hid hny
        dsimp only
        rw [hny]
        clear ho5 hg5 ga5 hm5 hi5 hny HL1 HL2
        go_wp2_with (fail)
        clear hwb
        refine HL3.out.mono ?_
        rintro e wc ⟨A6, k6, c6, rfl, ho6, hg6⟩
        dsimp only at ho6
        dsimp only
        rw [HNY.out]
        have ga6 := grows_alloc wc (.cells #[.slice A6 k6 c6, .int .i64 ny] 31)
        have hm6 := Whole.made wc 31 #[.slice A6 k6 c6, .int .i64 ny]
        have hi6 := Ints.owned (owned_from (owned_grow ho6 ga6) (Nat.zero_le _))
        obtain ⟨we, hwe⟩ : ∃ z, wc.alloc (.cells #[.slice A6 k6 c6, .int .i64 ny] 31) = z := ⟨_, rfl⟩
        rw [hwe] at ga6 hm6 hi6
        have hg56 := Grows.trans hg6 ga6
        have hm5 := hg56.whole HB5.out.2.1
        have s0 := hm5.cell 0
        have s1 := hm5.cell 1
        have s2 := hm6.cell 0
        have s3 := hm6.cell 1
        simp only [List.getElem?_toArray, List.getElem?_cons_zero, List.getElem?_cons_succ] at s0 s1 s2 s3
        have hsm := msame_any we A5 k5 c5 lm A6 k6 c6 lm (HB5.out.2.2.grow hg56) hi6 (by rw [← HB5.out.2.2.len]; have := HLM.out; omega)
        rw [decide_eq_true rfl, HNY.out] at hsm
        have HSM := Lib.hid hsm
        have HTE := Lib.hid (HTL.out.grow (HB5.out.1.trans hg56))
        clear ho6 hg6 ga6 hm6 hi6 hg56 hm5 hsm HL3 HB5
        go_wp2_with (fail)
        clear hwe
        refine HSM.out.mono ?_
        rintro e wf ⟨rfl, hgf⟩
        have HTF := Lib.hid (HTE.out.grow hgf)
        clear hgf HSM s0 s1 s2 s3
        obtain ⟨nm, hnn⟩ : ∃ nm, m1.names.length = nm := ⟨_, rfl⟩
        obtain ⟨ns, hns⟩ : ∃ ns, m1.names.map (·.1) = ns := ⟨_, rfl⟩
        have HNL := Lib.hid (show ns.length = nm ∧ nm ≤ 100000 ∧ ∀ u ∈ ns, u.length ≤ 16 from by
          refine ⟨by rw [← hns, List.length_map]; exact hnn, by rw [← hnn]; exact Nat.le_trans HGL.out.ok.names (by omega), fun u hu => ?_⟩
          rw [← hns] at hu
          obtain ⟨p, hp, rfl⟩ := List.mem_map.1 hu
          exact HGL.out.names p hp)
        have hl := HTF.out.list HGL.out (by omega)
        have hlr := fun w' (hg : Grows wf w') => (HTF.out.grow hg).listR HGL.out (by omega)
        rw [hnn, hns] at hl
        simp only [hnn, hns] at hlr
        have HL := Lib.hid hl
        have HLR := Lib.hid hlr
        have HU := Lib.hid (fun w' (hg : Grows wf w') => (HTF.out.grow hg).used)
        have HUR := Lib.hid (fun w' (hg : Grows wf w') => (HTF.out.grow hg).usedR HGL.out (by omega))
        have HO1 := Lib.hid (fun w' (hg : Grows wf w') => (HTF.out.grow hg).done)
        have HOR := Lib.hid (fun w' (hg : Grows wf w') => (HTF.out.grow hg).doneR HGL.out)
        obtain ⟨us, hus⟩ : ∃ us, m1.used = us := ⟨_, rfl⟩
        obtain ⟨dd, hdd⟩ : ∃ dd, m1.done = dd := ⟨_, rfl⟩
        rw [hus] at HU HUR
        rw [hdd] at HO1 HOR
        clear hl hlr hnn hns hus hdd
        go_wp2_with (fail)
        refine HL.out.mono ?_
        rintro e x1' ⟨LA, lc, rfl, hr1, hg1⟩
        have H1 := Lib.hid (And.intro hr1 hg1)
        clear hr1 hg1
        go_wp2_with (fail)
        refine (HLR.out x1' H1.out.2).mono ?_
        rintro e x2 ⟨LB, ld, rfl, hr2, hg2⟩
        have H2 := Lib.hid (Grows.trans H1.out.2 hg2)
        have hs := same_names LA nm lc LB nm ld ns ns x2 (hg2.row H1.out.1) hr2 (by have := HNL.out; omega)
        rw [decide_eq_true (Eq.refl ns)] at hs
        have HS := Lib.hid hs
        clear hr2 hg2 hs
        go_wp2_with (fail)
        refine HS.out.mono ?_
        rintro e x3 ⟨rfl, hg3⟩
        have G3 := Lib.hid (Grows.trans H2.out hg3)
        clear hg3
        go_wp2_with (fail)
        refine (HU.out x3 G3.out).mono ?_
        rintro e x4 ⟨rfl, rfl⟩
        go_wp2_with (fail)
        refine (HUR.out x3 G3.out).mono ?_
        rintro e x4 ⟨rfl, hg4⟩
        have G4 := Lib.hid (Grows.trans G3.out hg4)
        clear hg4
        go_wp2_with (fail)
        refine (HO1.out x4 G4.out).mono ?_
        rintro e x5 ⟨rfl, rfl⟩
        go_wp2_with (fail)
        refine (HOR.out x4 G4.out).mono ?_
        rintro e x5 ⟨rfl, rfl⟩
        go_wp2_with (fail)
        exact ⟨⟨j + 1, m1, x1, HLT.out, rfl, Lib.hid ((HTF.out.grow G4.out).less fun k hk => hk.elim), Lib.hid (HGL.out.mono HBD.out.2.2.1)⟩, less_one HLT.out⟩
      by_cases h6 : what = 6
      · subst h6
        obtain ⟨v, hv⟩ : ∃ v, (m.flip nmM nn z).2 = v := ⟨_, rfl⟩
        have HXV := Lib.hid (show (x.flip nmM nn z).2 = v from (HG.out.flip nmM nn z).1.trans hv)
        have hg1 := (HG.out.flip nmM nn z).2
        obtain ⟨m1, hm1⟩ : ∃ q, (m.flip nmM nn z).1 = q := ⟨_, rfl⟩
        have HD := Lib.hid (HT1.out.dop (v := .returned (.bool v)) (m' := m1) fun out' ho h => flip_in nmM nn z h HG.out.ok (by omega) (by decide) HAT.out.n HZB.out (Prod.ext hm1 hv))
        have HGX := Lib.hid hg1
        rw [hm1] at HGX
        clear hg1
        go_wp2_with (fail)
        refine HD.out.mono ?_
        rintro e w2 ⟨rfl, ht2, hs2⟩
        have hbx := HBX.out.same (hs2.same _ HBX.out.lt fun e => e.2 rfl)
        have r0 := hbx.cell 0
        have r1 := hbx.cell 1
        have r2 := hbx.cell 2
        have r3 := hbx.cell 3
        have r4 := hbx.cell 4
        have r5 := hbx.cell 5
        simp only [List.getElem?_toArray, List.getElem?_cons_zero, List.getElem?_cons_succ] at r0 r1 r2 r3 r4 r5
        have HR := Lib.hid (ht2.rop (v := .returned (.bool v)) (x' := (x.flip nmM nn z).1) fun ro fv nv kv pv k1 k2 => (rflip_any _ nmM nn z k1 (HG.out.fit (by omega)) HAT.out.n HZB.out).mono fun e w' hh => ⟨by rw [hh.1, HXV.out], hh.2⟩)
        clear hs2 hbx HD
        go_wp2_with (fail)
        refine HR.out.mono ?_
        rintro e w3 ⟨rfl, ht3, hs3⟩
        obtain ⟨x1, hx1⟩ : ∃ q, (x.flip nmM nn z).1 = q := ⟨_, rfl⟩
        rw [hx1] at ht3 HGX
        have HTL := Lib.hid ht3
        have HGL := Lib.hid (HGX.out.mono (show _ ≤ K + 20 + 4 * ol by omega))
        clear ht2 ht3 hs3 hx1 hm1 HR HGX
        clear r0 r1 r2 r3 r4 r5
        obtain ⟨⟨lm, lb, le⟩, hld⟩ : ∃ q, loadP m1 = q := ⟨_, rfl⟩
        obtain ⟨od, hdk⟩ := HTL.out.dk
        have hl1 := mload_any w3 hdk HGL.out.ok (by omega)
        have hl2 := fun w' (hg : Grows w3 w') => rload_any w' (HTL.out.grow hg) HGL.out (by omega)
        rw [hld] at hl1
        simp only [hld] at hl2
        have HL1 := Lib.hid hl1
        have HL2 := Lib.hid hl2
        have HLM := Lib.hid (show lm.segs.length ≤ 1000 from by
          have := load_len m1
          rw [hld] at this
          exact this)
        clear hld hdk hl1 hl2
        go_wp2_with (fail)
        refine HL1.out.mono ?_
        rintro e wa ⟨A5, k5, c5, rfl, ho5, hg5⟩
        obtain ⟨ny, hny⟩ : ∃ z, lm.next = z := ⟨_, rfl⟩
        dsimp only at ho5
        have ga5 := grows_alloc wa (.cells #[.slice A5 k5 c5, .int .i64 ny] 31)
        have hm5 := Whole.made wa 31 #[.slice A5 k5 c5, .int .i64 ny]
        have hi5 := Ints.owned (owned_from (owned_grow ho5 ga5) (Nat.zero_le _))
        obtain ⟨wb, hwb⟩ : ∃ z, wa.alloc (.cells #[.slice A5 k5 c5, .int .i64 ny] 31) = z := ⟨_, rfl⟩
        rw [hwb] at ga5 hm5 hi5
        have HB5 := Lib.hid (And.intro (Grows.trans hg5 ga5) (And.intro hm5 hi5))
        have HL3 := Lib.hid (HL2.out wb (Grows.trans hg5 ga5))
        have HNY := Lib.hid hny
        dsimp only
        rw [hny]
        clear ho5 hg5 ga5 hm5 hi5 hny HL1 HL2
        go_wp2_with (fail)
        clear hwb
        refine HL3.out.mono ?_
        rintro e wc ⟨A6, k6, c6, rfl, ho6, hg6⟩
        dsimp only at ho6
        dsimp only
        rw [HNY.out]
        have ga6 := grows_alloc wc (.cells #[.slice A6 k6 c6, .int .i64 ny] 31)
        have hm6 := Whole.made wc 31 #[.slice A6 k6 c6, .int .i64 ny]
        have hi6 := Ints.owned (owned_from (owned_grow ho6 ga6) (Nat.zero_le _))
        obtain ⟨we, hwe⟩ : ∃ z, wc.alloc (.cells #[.slice A6 k6 c6, .int .i64 ny] 31) = z := ⟨_, rfl⟩
        rw [hwe] at ga6 hm6 hi6
        have hg56 := Grows.trans hg6 ga6
        have hm5 := hg56.whole HB5.out.2.1
        have s0 := hm5.cell 0
        have s1 := hm5.cell 1
        have s2 := hm6.cell 0
        have s3 := hm6.cell 1
        simp only [List.getElem?_toArray, List.getElem?_cons_zero, List.getElem?_cons_succ] at s0 s1 s2 s3
        have hsm := msame_any we A5 k5 c5 lm A6 k6 c6 lm (HB5.out.2.2.grow hg56) hi6 (by rw [← HB5.out.2.2.len]; have := HLM.out; omega)
        rw [decide_eq_true rfl, HNY.out] at hsm
        have HSM := Lib.hid hsm
        have HTE := Lib.hid (HTL.out.grow (HB5.out.1.trans hg56))
        clear ho6 hg6 ga6 hm6 hi6 hg56 hm5 hsm HL3 HB5
        go_wp2_with (fail)
        clear hwe
        refine HSM.out.mono ?_
        rintro e wf ⟨rfl, hgf⟩
        have HTF := Lib.hid (HTE.out.grow hgf)
        clear hgf HSM s0 s1 s2 s3
        obtain ⟨nm, hnn⟩ : ∃ nm, m1.names.length = nm := ⟨_, rfl⟩
        obtain ⟨ns, hns⟩ : ∃ ns, m1.names.map (·.1) = ns := ⟨_, rfl⟩
        have HNL := Lib.hid (show ns.length = nm ∧ nm ≤ 100000 ∧ ∀ u ∈ ns, u.length ≤ 16 from by
          refine ⟨by rw [← hns, List.length_map]; exact hnn, by rw [← hnn]; exact Nat.le_trans HGL.out.ok.names (by omega), fun u hu => ?_⟩
          rw [← hns] at hu
          obtain ⟨p, hp, rfl⟩ := List.mem_map.1 hu
          exact HGL.out.names p hp)
        have hl := HTF.out.list HGL.out (by omega)
        have hlr := fun w' (hg : Grows wf w') => (HTF.out.grow hg).listR HGL.out (by omega)
        rw [hnn, hns] at hl
        simp only [hnn, hns] at hlr
        have HL := Lib.hid hl
        have HLR := Lib.hid hlr
        have HU := Lib.hid (fun w' (hg : Grows wf w') => (HTF.out.grow hg).used)
        have HUR := Lib.hid (fun w' (hg : Grows wf w') => (HTF.out.grow hg).usedR HGL.out (by omega))
        have HO1 := Lib.hid (fun w' (hg : Grows wf w') => (HTF.out.grow hg).done)
        have HOR := Lib.hid (fun w' (hg : Grows wf w') => (HTF.out.grow hg).doneR HGL.out)
        obtain ⟨us, hus⟩ : ∃ us, m1.used = us := ⟨_, rfl⟩
        obtain ⟨dd, hdd⟩ : ∃ dd, m1.done = dd := ⟨_, rfl⟩
        rw [hus] at HU HUR
        rw [hdd] at HO1 HOR
        clear hl hlr hnn hns hus hdd
        go_wp2_with (fail)
        refine HL.out.mono ?_
        rintro e x1' ⟨LA, lc, rfl, hr1, hg1⟩
        have H1 := Lib.hid (And.intro hr1 hg1)
        clear hr1 hg1
        go_wp2_with (fail)
        refine (HLR.out x1' H1.out.2).mono ?_
        rintro e x2 ⟨LB, ld, rfl, hr2, hg2⟩
        have H2 := Lib.hid (Grows.trans H1.out.2 hg2)
        have hs := same_names LA nm lc LB nm ld ns ns x2 (hg2.row H1.out.1) hr2 (by have := HNL.out; omega)
        rw [decide_eq_true (Eq.refl ns)] at hs
        have HS := Lib.hid hs
        clear hr2 hg2 hs
        go_wp2_with (fail)
        refine HS.out.mono ?_
        rintro e x3 ⟨rfl, hg3⟩
        have G3 := Lib.hid (Grows.trans H2.out hg3)
        clear hg3
        go_wp2_with (fail)
        refine (HU.out x3 G3.out).mono ?_
        rintro e x4 ⟨rfl, rfl⟩
        go_wp2_with (fail)
        refine (HUR.out x3 G3.out).mono ?_
        rintro e x4 ⟨rfl, hg4⟩
        have G4 := Lib.hid (Grows.trans G3.out hg4)
        clear hg4
        go_wp2_with (fail)
        refine (HO1.out x4 G4.out).mono ?_
        rintro e x5 ⟨rfl, rfl⟩
        go_wp2_with (fail)
        refine (HOR.out x4 G4.out).mono ?_
        rintro e x5 ⟨rfl, rfl⟩
        go_wp2_with (fail)
        exact ⟨⟨j + 1, m1, x1, HLT.out, rfl, Lib.hid ((HTF.out.grow G4.out).less fun k hk => hk.elim), Lib.hid (HGL.out.mono HBD.out.2.2.1)⟩, less_one HLT.out⟩
      by_cases h7 : what = 7
      · subst h7
        obtain ⟨v, hv⟩ : ∃ v, (m.create nmT).2 = v := ⟨_, rfl⟩
        have HXV := Lib.hid (show (x.create nmT).2 = v from (HG.out.create (by omega) nmT).1.trans hv)
        have hg1 := (HG.out.create (by omega) nmT).2
        obtain ⟨m1, hm1⟩ : ∃ q, (m.create nmT).1 = q := ⟨_, rfl⟩
        have HD := Lib.hid (HT1.out.dop (v := .returned (.int .i64 v)) (m' := m1) fun out' ho h => create_in nmT h HG.out.ok (by omega) (by decide) hv hm1)
        have HGX := Lib.hid hg1
        rw [hm1] at HGX
        clear hg1
        go_wp2_with (fail)
        refine HD.out.mono ?_
        rintro e w2 ⟨rfl, ht2, hs2⟩
        have hbx := HBX.out.same (hs2.same _ HBX.out.lt fun e => e.2 rfl)
        have r0 := hbx.cell 0
        have r1 := hbx.cell 1
        have r2 := hbx.cell 2
        have r3 := hbx.cell 3
        have r4 := hbx.cell 4
        have r5 := hbx.cell 5
        simp only [List.getElem?_toArray, List.getElem?_cons_zero, List.getElem?_cons_succ] at r0 r1 r2 r3 r4 r5
        have HR := Lib.hid (ht2.rop (v := .returned (.int .i64 v)) (x' := (x.create nmT).1) fun ro fv nv kv pv k1 k2 => (rcreate_any _ nmT k1 (HG.out.fit (by omega))).mono fun e w' hh => ⟨by rw [hh.1, HXV.out], hh.2⟩)
        clear hs2 hbx HD
        go_wp2_with (fail)
        refine HR.out.mono ?_
        rintro e w3 ⟨rfl, ht3, hs3⟩
        obtain ⟨x1, hx1⟩ : ∃ q, (x.create nmT).1 = q := ⟨_, rfl⟩
        rw [hx1] at ht3 HGX
        have HTL := Lib.hid ht3
        have HGL := Lib.hid (HGX.out.mono (show _ ≤ K + 20 + 4 * ol by omega))
        clear ht2 ht3 hs3 hx1 hm1 HR HGX
        clear r0 r1 r2 r3 r4 r5
        obtain ⟨⟨lm, lb, le⟩, hld⟩ : ∃ q, loadP m1 = q := ⟨_, rfl⟩
        obtain ⟨od, hdk⟩ := HTL.out.dk
        have hl1 := mload_any w3 hdk HGL.out.ok (by omega)
        have hl2 := fun w' (hg : Grows w3 w') => rload_any w' (HTL.out.grow hg) HGL.out (by omega)
        rw [hld] at hl1
        simp only [hld] at hl2
        have HL1 := Lib.hid hl1
        have HL2 := Lib.hid hl2
        have HLM := Lib.hid (show lm.segs.length ≤ 1000 from by
          have := load_len m1
          rw [hld] at this
          exact this)
        clear hld hdk hl1 hl2
        go_wp2_with (fail)
        refine HL1.out.mono ?_
        rintro e wa ⟨A5, k5, c5, rfl, ho5, hg5⟩
        obtain ⟨ny, hny⟩ : ∃ z, lm.next = z := ⟨_, rfl⟩
        dsimp only at ho5
        have ga5 := grows_alloc wa (.cells #[.slice A5 k5 c5, .int .i64 ny] 31)
        have hm5 := Whole.made wa 31 #[.slice A5 k5 c5, .int .i64 ny]
        have hi5 := Ints.owned (owned_from (owned_grow ho5 ga5) (Nat.zero_le _))
        obtain ⟨wb, hwb⟩ : ∃ z, wa.alloc (.cells #[.slice A5 k5 c5, .int .i64 ny] 31) = z := ⟨_, rfl⟩
        rw [hwb] at ga5 hm5 hi5
        have HB5 := Lib.hid (And.intro (Grows.trans hg5 ga5) (And.intro hm5 hi5))
        have HL3 := Lib.hid (HL2.out wb (Grows.trans hg5 ga5))
        have HNY := Lib.hid hny
        dsimp only
        rw [hny]
        clear ho5 hg5 ga5 hm5 hi5 hny HL1 HL2
        go_wp2_with (fail)
        clear hwb
        refine HL3.out.mono ?_
        rintro e wc ⟨A6, k6, c6, rfl, ho6, hg6⟩
        dsimp only at ho6
        dsimp only
        rw [HNY.out]
        have ga6 := grows_alloc wc (.cells #[.slice A6 k6 c6, .int .i64 ny] 31)
        have hm6 := Whole.made wc 31 #[.slice A6 k6 c6, .int .i64 ny]
        have hi6 := Ints.owned (owned_from (owned_grow ho6 ga6) (Nat.zero_le _))
        obtain ⟨we, hwe⟩ : ∃ z, wc.alloc (.cells #[.slice A6 k6 c6, .int .i64 ny] 31) = z := ⟨_, rfl⟩
        rw [hwe] at ga6 hm6 hi6
        have hg56 := Grows.trans hg6 ga6
        have hm5 := hg56.whole HB5.out.2.1
        have s0 := hm5.cell 0
        have s1 := hm5.cell 1
        have s2 := hm6.cell 0
        have s3 := hm6.cell 1
        simp only [List.getElem?_toArray, List.getElem?_cons_zero, List.getElem?_cons_succ] at s0 s1 s2 s3
        have hsm := msame_any we A5 k5 c5 lm A6 k6 c6 lm (HB5.out.2.2.grow hg56) hi6 (by rw [← HB5.out.2.2.len]; have := HLM.out; omega)
        rw [decide_eq_true rfl, HNY.out] at hsm
        have HSM := Lib.hid hsm
        have HTE := Lib.hid (HTL.out.grow (HB5.out.1.trans hg56))
        clear ho6 hg6 ga6 hm6 hi6 hg56 hm5 hsm HL3 HB5
        go_wp2_with (fail)
        clear hwe
        refine HSM.out.mono ?_
        rintro e wf ⟨rfl, hgf⟩
        have HTF := Lib.hid (HTE.out.grow hgf)
        clear hgf HSM s0 s1 s2 s3
        obtain ⟨nm, hnn⟩ : ∃ nm, m1.names.length = nm := ⟨_, rfl⟩
        obtain ⟨ns, hns⟩ : ∃ ns, m1.names.map (·.1) = ns := ⟨_, rfl⟩
        have HNL := Lib.hid (show ns.length = nm ∧ nm ≤ 100000 ∧ ∀ u ∈ ns, u.length ≤ 16 from by
          refine ⟨by rw [← hns, List.length_map]; exact hnn, by rw [← hnn]; exact Nat.le_trans HGL.out.ok.names (by omega), fun u hu => ?_⟩
          rw [← hns] at hu
          obtain ⟨p, hp, rfl⟩ := List.mem_map.1 hu
          exact HGL.out.names p hp)
        have hl := HTF.out.list HGL.out (by omega)
        have hlr := fun w' (hg : Grows wf w') => (HTF.out.grow hg).listR HGL.out (by omega)
        rw [hnn, hns] at hl
        simp only [hnn, hns] at hlr
        have HL := Lib.hid hl
        have HLR := Lib.hid hlr
        have HU := Lib.hid (fun w' (hg : Grows wf w') => (HTF.out.grow hg).used)
        have HUR := Lib.hid (fun w' (hg : Grows wf w') => (HTF.out.grow hg).usedR HGL.out (by omega))
        have HO1 := Lib.hid (fun w' (hg : Grows wf w') => (HTF.out.grow hg).done)
        have HOR := Lib.hid (fun w' (hg : Grows wf w') => (HTF.out.grow hg).doneR HGL.out)
        obtain ⟨us, hus⟩ : ∃ us, m1.used = us := ⟨_, rfl⟩
        obtain ⟨dd, hdd⟩ : ∃ dd, m1.done = dd := ⟨_, rfl⟩
        rw [hus] at HU HUR
        rw [hdd] at HO1 HOR
        clear hl hlr hnn hns hus hdd
        go_wp2_with (fail)
        refine HL.out.mono ?_
        rintro e x1' ⟨LA, lc, rfl, hr1, hg1⟩
        have H1 := Lib.hid (And.intro hr1 hg1)
        clear hr1 hg1
        go_wp2_with (fail)
        refine (HLR.out x1' H1.out.2).mono ?_
        rintro e x2 ⟨LB, ld, rfl, hr2, hg2⟩
        have H2 := Lib.hid (Grows.trans H1.out.2 hg2)
        have hs := same_names LA nm lc LB nm ld ns ns x2 (hg2.row H1.out.1) hr2 (by have := HNL.out; omega)
        rw [decide_eq_true (Eq.refl ns)] at hs
        have HS := Lib.hid hs
        clear hr2 hg2 hs
        go_wp2_with (fail)
        refine HS.out.mono ?_
        rintro e x3 ⟨rfl, hg3⟩
        have G3 := Lib.hid (Grows.trans H2.out hg3)
        clear hg3
        go_wp2_with (fail)
        refine (HU.out x3 G3.out).mono ?_
        rintro e x4 ⟨rfl, rfl⟩
        go_wp2_with (fail)
        refine (HUR.out x3 G3.out).mono ?_
        rintro e x4 ⟨rfl, hg4⟩
        have G4 := Lib.hid (Grows.trans G3.out hg4)
        clear hg4
        go_wp2_with (fail)
        refine (HO1.out x4 G4.out).mono ?_
        rintro e x5 ⟨rfl, rfl⟩
        go_wp2_with (fail)
        refine (HOR.out x4 G4.out).mono ?_
        rintro e x5 ⟨rfl, rfl⟩
        go_wp2_with (fail)
        exact ⟨⟨j + 1, m1, x1, HLT.out, rfl, Lib.hid ((HTF.out.grow G4.out).less fun k hk => hk.elim), Lib.hid (HGL.out.mono HBD.out.2.2.1)⟩, less_one HLT.out⟩
      have n0 : (what == 0) = false := by rw [beq_eq_false_iff_ne]; omega
      have n1 : (what == 1) = false := by rw [beq_eq_false_iff_ne]; omega
      have n3 : (what == 3) = false := by rw [beq_eq_false_iff_ne]; omega
      have n4 : (what == 4) = false := by rw [beq_eq_false_iff_ne]; omega
      have n5 : (what == 5) = false := by rw [beq_eq_false_iff_ne]; omega
      have n6 : (what == 6) = false := by rw [beq_eq_false_iff_ne]; omega
      have n7 : (what == 7) = false := by rw [beq_eq_false_iff_ne]; omega
      obtain ⟨m1, hm1⟩ : ∃ q, m = q := ⟨_, rfl⟩
      obtain ⟨x1, hx1⟩ : ∃ q, x = q := ⟨_, rfl⟩
      rw [hm1, hx1] at HT1 HG
      have HTL := HT1
      have HGL := Lib.hid (HG.out.mono (show _ ≤ K + 20 + 4 * ol by omega))
      clear hm1 hx1 h0 h1 h3 h4 h5 h6 h7
      obtain ⟨⟨lm, lb, le⟩, hld⟩ : ∃ q, loadP m1 = q := ⟨_, rfl⟩
      obtain ⟨od, hdk⟩ := HTL.out.dk
      have hl1 := mload_any w1 hdk HGL.out.ok (by omega)
      have hl2 := fun w' (hg : Grows w1 w') => rload_any w' (HTL.out.grow hg) HGL.out (by omega)
      rw [hld] at hl1
      simp only [hld] at hl2
      have HL1 := Lib.hid hl1
      have HL2 := Lib.hid hl2
      have HLM := Lib.hid (show lm.segs.length ≤ 1000 from by
        have := load_len m1
        rw [hld] at this
        exact this)
      clear hld hdk hl1 hl2
      go_wp2_with (fail)
      refine HL1.out.mono ?_
      rintro e wa ⟨A5, k5, c5, rfl, ho5, hg5⟩
      obtain ⟨ny, hny⟩ : ∃ z, lm.next = z := ⟨_, rfl⟩
      dsimp only at ho5
      have ga5 := grows_alloc wa (.cells #[.slice A5 k5 c5, .int .i64 ny] 31)
      have hm5 := Whole.made wa 31 #[.slice A5 k5 c5, .int .i64 ny]
      have hi5 := Ints.owned (owned_from (owned_grow ho5 ga5) (Nat.zero_le _))
      obtain ⟨wb, hwb⟩ : ∃ z, wa.alloc (.cells #[.slice A5 k5 c5, .int .i64 ny] 31) = z := ⟨_, rfl⟩
      rw [hwb] at ga5 hm5 hi5
      have HB5 := Lib.hid (And.intro (Grows.trans hg5 ga5) (And.intro hm5 hi5))
      have HL3 := Lib.hid (HL2.out wb (Grows.trans hg5 ga5))
      have HNY := Lib.hid hny
      dsimp only
      rw [hny]
      clear ho5 hg5 ga5 hm5 hi5 hny HL1 HL2
      go_wp2_with (fail)
      clear hwb
      refine HL3.out.mono ?_
      rintro e wc ⟨A6, k6, c6, rfl, ho6, hg6⟩
      dsimp only at ho6
      dsimp only
      rw [HNY.out]
      have ga6 := grows_alloc wc (.cells #[.slice A6 k6 c6, .int .i64 ny] 31)
      have hm6 := Whole.made wc 31 #[.slice A6 k6 c6, .int .i64 ny]
      have hi6 := Ints.owned (owned_from (owned_grow ho6 ga6) (Nat.zero_le _))
      obtain ⟨we, hwe⟩ : ∃ z, wc.alloc (.cells #[.slice A6 k6 c6, .int .i64 ny] 31) = z := ⟨_, rfl⟩
      rw [hwe] at ga6 hm6 hi6
      have hg56 := Grows.trans hg6 ga6
      have hm5 := hg56.whole HB5.out.2.1
      have s0 := hm5.cell 0
      have s1 := hm5.cell 1
      have s2 := hm6.cell 0
      have s3 := hm6.cell 1
      simp only [List.getElem?_toArray, List.getElem?_cons_zero, List.getElem?_cons_succ] at s0 s1 s2 s3
      have hsm := msame_any we A5 k5 c5 lm A6 k6 c6 lm (HB5.out.2.2.grow hg56) hi6 (by rw [← HB5.out.2.2.len]; have := HLM.out; omega)
      rw [decide_eq_true rfl, HNY.out] at hsm
      have HSM := Lib.hid hsm
      have HTE := Lib.hid (HTL.out.grow (HB5.out.1.trans hg56))
      clear ho6 hg6 ga6 hm6 hi6 hg56 hm5 hsm HL3 HB5
      go_wp2_with (fail)
      clear hwe
      refine HSM.out.mono ?_
      rintro e wf ⟨rfl, hgf⟩
      have HTF := Lib.hid (HTE.out.grow hgf)
      clear hgf HSM s0 s1 s2 s3
      obtain ⟨nm, hnn⟩ : ∃ nm, m1.names.length = nm := ⟨_, rfl⟩
      obtain ⟨ns, hns⟩ : ∃ ns, m1.names.map (·.1) = ns := ⟨_, rfl⟩
      have HNL := Lib.hid (show ns.length = nm ∧ nm ≤ 100000 ∧ ∀ u ∈ ns, u.length ≤ 16 from by
        refine ⟨by rw [← hns, List.length_map]; exact hnn, by rw [← hnn]; exact Nat.le_trans HGL.out.ok.names (by omega), fun u hu => ?_⟩
        rw [← hns] at hu
        obtain ⟨p, hp, rfl⟩ := List.mem_map.1 hu
        exact HGL.out.names p hp)
      have hl := HTF.out.list HGL.out (by omega)
      have hlr := fun w' (hg : Grows wf w') => (HTF.out.grow hg).listR HGL.out (by omega)
      rw [hnn, hns] at hl
      simp only [hnn, hns] at hlr
      have HL := Lib.hid hl
      have HLR := Lib.hid hlr
      have HU := Lib.hid (fun w' (hg : Grows wf w') => (HTF.out.grow hg).used)
      have HUR := Lib.hid (fun w' (hg : Grows wf w') => (HTF.out.grow hg).usedR HGL.out (by omega))
      have HO1 := Lib.hid (fun w' (hg : Grows wf w') => (HTF.out.grow hg).done)
      have HOR := Lib.hid (fun w' (hg : Grows wf w') => (HTF.out.grow hg).doneR HGL.out)
      obtain ⟨us, hus⟩ : ∃ us, m1.used = us := ⟨_, rfl⟩
      obtain ⟨dd, hdd⟩ : ∃ dd, m1.done = dd := ⟨_, rfl⟩
      rw [hus] at HU HUR
      rw [hdd] at HO1 HOR
      clear hl hlr hnn hns hus hdd
      go_wp2_with (fail)
      refine HL.out.mono ?_
      rintro e x1' ⟨LA, lc, rfl, hr1, hg1⟩
      have H1 := Lib.hid (And.intro hr1 hg1)
      clear hr1 hg1
      go_wp2_with (fail)
      refine (HLR.out x1' H1.out.2).mono ?_
      rintro e x2 ⟨LB, ld, rfl, hr2, hg2⟩
      have H2 := Lib.hid (Grows.trans H1.out.2 hg2)
      have hs := same_names LA nm lc LB nm ld ns ns x2 (hg2.row H1.out.1) hr2 (by have := HNL.out; omega)
      rw [decide_eq_true (Eq.refl ns)] at hs
      have HS := Lib.hid hs
      clear hr2 hg2 hs
      go_wp2_with (fail)
      refine HS.out.mono ?_
      rintro e x3 ⟨rfl, hg3⟩
      have G3 := Lib.hid (Grows.trans H2.out hg3)
      clear hg3
      go_wp2_with (fail)
      refine (HU.out x3 G3.out).mono ?_
      rintro e x4 ⟨rfl, rfl⟩
      go_wp2_with (fail)
      refine (HUR.out x3 G3.out).mono ?_
      rintro e x4 ⟨rfl, hg4⟩
      have G4 := Lib.hid (Grows.trans G3.out hg4)
      clear hg4
      go_wp2_with (fail)
      refine (HO1.out x4 G4.out).mono ?_
      rintro e x5 ⟨rfl, rfl⟩
      go_wp2_with (fail)
      refine (HOR.out x4 G4.out).mono ?_
      rintro e x5 ⟨rfl, rfl⟩
      go_wp2_with (fail)
      exact ⟨⟨j + 1, m1, x1, HLT.out, rfl, Lib.hid ((HTF.out.grow G4.out).less fun k hk => hk.elim), Lib.hid (HGL.out.mono HBD.out.2.2.1)⟩, less_one HLT.out⟩
    · obtain rfl : j = n0 := by omega
      go_wp2_with (fail)
      go_ret
      exact ⟨rfl, HW.out.low⟩

set_option maxRecDepth 100000 in
theorem manPlays_lifted (os : Os) (started : os.Started) (H : Type) (enc : TypeId × Value → H) :
    ReturnsInHanded {} Tryz.checked os 3 .any (Rows.manPlaysSpec.pre6 enc Tryz.prog Tryz.f3 Rows.manPlaysRow.domain false) (Rows.manPlaysSpec.post enc Tryz.prog Tryz.f3 false true false false) := by
  refine lift_law (C := Tryz.checked) H enc own started (by kernel_rfl) Tryz.func3
    (ChangeSpec.witness6 (enc := enc) (C := Tryz.checked) false ⟨#[], #[.int .i64 0, .slice none 0 0], []⟩ 16 (by kernel_rfl) (by kernel_rfl) (by kernel_rfl) (by kernel_rfl))
    laidOut (of_readable (by kernel_rfl)) rfl Tryz.underlying4 rfl (fun ds hd => ?_) (fun W base args ds p hval hA hsz => ?_)
  · match ds, hd with
    | [d1, d2], _ => rfl
  · rw [Tryz.params3] at hA hval hsz
    obtain ⟨v0, vs0, d0, ds0, p0, q0, hargs, rfl, rfl, h0, r0⟩ := trodAll_cons hA
    obtain ⟨v1, vs1, d1, ds1, p1, q1, rfl, rfl, rfl, h1, r1⟩ := trodAll_cons r0
    obtain ⟨rfl, rfl, rfl⟩ := trodAll_nil r1
    obtain rfl : args = #[v0, v1] := by cases args; simp_all
    obtain ⟨a0, rfl, _, _, w0⟩ := open_int Tryz.underlying3 (hval 0 3 v0 rfl rfl) h0
    have b0 := bounds_i64 w0
    obtain ⟨A1, n1, c1, xs1, rfl, hx1⟩ := open_ops10 (hval 1 22 v1 rfl rfl) h1 hsz (j := 1) rfl rfl
    exact manPlays_law W a0 (by omega) A1 n1 c1 xs1 hx1

theorem manPlays_over : Rows.manPlaysRow.holds Tryz.pinned (OpenSpec.ofChange Rows.manPlaysSpec) :=
  OpenClaim.holds_of_wide 3 Tryz.f3 rfl rfl rfl rfl rfl rfl rfl ⟨rfl, rfl, rfl, rfl, rfl⟩ rfl rfl rfl rfl rfl (by kernel_rfl) Tryz.func3 (by kernel_rfl)
    (of_decide_eq_true (by kernel_rfl)) (by unfold Func.isWrapper; first | (rw [if_pos (by decide +kernel)]; kernel_rfl) | (rw [if_neg (by decide +kernel)]; exact ⟨rfl, rfl⟩))
    (fun os started H enc _ => manPlays_lifted os started H enc)
theorem manPlays_holds : Rows.ManPlaysSaid := manPlays_over
end Go.Proofs.YtdkpbphgaenlnaaGreat
