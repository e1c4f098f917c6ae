/-
  Statement DiskNothing: what has an error has changed nothing of names, and files. All arguments, no condition.
-/
import Derived.Test.YtgemjdacnomnhaaMWb
import Derived.Test.YtgemjdacnomnhaaMC
import Derived.Test.YtgemjdacnomnhaaDkGreat
import Derived.ProofKit
import Derived.ChangeOld
namespace Go.Proofs.Ytgemjdacnomnhaa
open Go.ChangeShapes Go.WideShapes Go.ChangeAt Go.RowKit
set_option linter.unusedSimpArgs false
set_option linter.unusedVariables false
set_option maxHeartbeats 16000000 in
set_option maxRecDepth 100000 in
theorem diskNothing_law (w : World) (most : Int) (hmost : -9223372036854775808 ≤ most ∧ most ≤ 9223372036854775807) (A0 : Option Addr) (n0 c0 : Nat) (os : List O8) (ho : Ops8 w A0 n0 c0 os) :
    Calls Try.prog 5 #[.int .i64 most, .slice A0 n0 c0] w fun e w' => e = .returned (.bool true) ∧ Below w.heap.size w w' := by
  have HO := Lib.hid ho
  have hn0 := ho.top
  clear ho
  go_enter Try.func5, Try.ntmps5
  go_wp2_with (fail)
  refine (head8_any w).mono ?_
  rintro e w0 ⟨rfl, hb0⟩
  have HB0 := Lib.hid hb0
  clear hb0
  go_wp2_with (fail)
  refine (new_any w0 most).mono ?_
  rintro e w1 ⟨d, rfl, hn⟩
  have HN := Lib.hid hn
  clear hn
  go_wp2_with (fail)
  refine (rnew_any w1 most).mono ?_
  rintro e w2 ⟨rfl, hrf, hg2⟩
  have ht := Two.new HN.out HB0.out.size HB0.out hrf hg2
  generalize w1.heap.size = r at ht
  have HT := Lib.hid ht
  have hg8 := great8_any A0 n0 c0 os w2 (HO.out.grow HT.out.low)
  have HG8 := Lib.hid hg8
  clear hg8 HN hrf hg2 ht
  go_wp2_with (fail)
  refine HG8.out.mono ?_
  rintro e w3 (⟨rfl, hg⟩ | ⟨rfl, hn150, hall, hg⟩)
  · have HZ := Lib.hid (HT.out.grow hg)
    clear hg
    go_wp2_with (fail)
    go_ret
    exact ⟨rfl, HZ.out.low⟩
  have HT1 := Lib.hid (HT.out.grow hg)
  have HALL := Lib.hid (And.intro hn150 hall)
  clear hg HT hall
  go_wp2_with (fail)
  go_loopw [8] (fun vi wr => ∃ (j : Nat) (m : Dk) (x : Rf), j ≤ n0 ∧ vi = .int .i64 (j : Nat) ∧ Hid (Two w.heap.size w wr d r (fun _ => False) m x) ∧ Hid (G2 (j + o8all (os.take j)) m x) ∧ Hid (0 ≤ m.done ∧ m.done ≤ j)) (fun i _ => n0 - (intOf i).toNat)
  case atStart => exact ⟨0, Dk.new most, Rf.new most, Nat.zero_le _, rfl, HT1, Lib.hid ((G2.new most).mono (Nat.zero_le _)), Lib.hid ⟨by show (0 : Int) ≤ 0; omega, by show (0 : Int) ≤ 0; omega⟩⟩
  case round =>
    obtain ⟨j, m, x, hj, rfl, HW, HG, HDN⟩ := hrel
    clear HT1
    by_cases hlt : j < n0
    · have hlt' : (j : Int) < (n0 : Int) := by omega
      have hj0 : (0 : Int) ≤ (j : Int) := by omega
      obtain ⟨ad, o, p, rfl, hblk, hoi, hat, hcs⟩ := HO.out.spot j hlt
      obtain ⟨q0, q1, q2, q3, q4, q5, q6⟩ := o8_cells (by rw [add_block]; exact hblk) hcs HW.out.low
      have HBD := Lib.hid (show o8len o ≤ 9000 ∧ j ≤ 150 ∧ o8all (os.take j) ≤ 9000 ∧ j + o8all (os.take j) + o8len o + 1 = j + 1 + o8all (os.take (j + 1)) by
        have h1 := o8all_one hoi
        have h2 := o8all_take os (j + 1)
        have h3 := HALL.out
        omega)
      have HLT := Lib.hid hlt
      have HWA := Lib.hid (fun (obj : Obj) => HW.out.grow (grows_alloc wr obj))
      have HLO := Lib.hid (fun (obj : Obj) => (HW.out.rf).elim fun ro h1 => h1.elim fun fv h2 => h2.elim fun nv h3 => h3.elim fun kv h4 => h4.elim fun pv h5 => rlist_own (wr.alloc obj) (h5.grow (grows_alloc wr obj)) (HG.out.fit (by have := HBD.out; omega)))
      rw [HG.out.gl.names] at HLO
      have hnsl : (m.names.map (·.1)).length = m.names.length := List.length_map _
      obtain ⟨ns, hns⟩ : ∃ ns, m.names.map (·.1) = ns := ⟨_, rfl⟩
      obtain ⟨nn, hnn⟩ : ∃ nn, m.names.length = nn := ⟨_, rfl⟩
      rw [hns, hnn] at hnsl
      rw [hns, hnsl] at HLO
      have HNN := Lib.hid (And.intro hns (And.intro hnn (show nn ≤ 100000 by rw [← hnn]; have := HG.out.ok.names; have := HBD.out; omega)))
      have HAT := Lib.hid hat
      have HGK := Lib.hid (And.intro HG.out (show j + o8all (os.take j) + 10000 ≤ 100000 by have := HBD.out; omega))
      clear hblk hoi hat hcs hns hnn hnsl HG
      go_wp2_with (fail)
      refine (HLO.out _).mono ?_
      rintro e w5 ⟨LA, lc, rfl, hrow, hg5⟩
      have H5 := Lib.hid (And.intro hrow hg5)
      clear hrow hg5
      obtain ⟨W1, hW1⟩ : ∃ W1, wr.alloc (.cells #[.int .i64 o.what, .string ⟨o.name.toArray⟩, .string ⟨o.to.toArray⟩, .slice p.BA p.bn p.bc, .int .i64 o.n, .slice p.IA p.im p.ic, .int .u32 o.bits] 34) = W1 := ⟨_, rfl⟩
      have HW1 := Lib.hid (show Grows wr W1 from hW1 ▸ grows_alloc _ _)
      have HM1 := Lib.hid (show Whole W1 wr.heap.size 34 #[.int .i64 o.what, .string ⟨o.name.toArray⟩, .string ⟨o.to.toArray⟩, .slice p.BA p.bn p.bc, .int .i64 o.n, .slice p.IA p.im p.ic, .int .u32 o.bits] from hW1 ▸ Whole.made _ _ _)
      rw [hW1] at H5
      have hus := (HW.out.grow (Grows.trans HW1.out H5.out.2)).usedR HGK.out.1 (by have := HGK.out.2; omega)
      obtain ⟨us, huse⟩ : ∃ us, m.used = us := ⟨_, rfl⟩
      rw [huse] at hus
      have HUS := Lib.hid hus
      have HUE := Lib.hid huse
      clear hus huse hW1
      go_wp2_with (fail)
      refine HUS.out.mono ?_
      rintro e w6 ⟨rfl, hg6⟩
      have HR6 := Lib.hid (owned_grow H5.out.1 hg6)
      have hM6 := hg6.whole (H5.out.2.whole HM1.out)
      have hgw6 := Grows.trans HW1.out (Grows.trans H5.out.2 hg6)
      have HL6 := Lib.hid (show wr.heap.size < W1.heap.size from HM1.out.lt)
      have hT6 := (HW.out.more hgw6).less (out' := fun k => wr.heap.size ≤ k ∧ k < w6.heap.size) fun k hk => .inr hk
      have HD6 := Lib.hid hT6.done
      obtain ⟨dd, hdd⟩ : ∃ dd, m.done = dd := ⟨_, rfl⟩
      rw [hdd] at HD6 HDN
      have hb := both8_any w6 hT6 HGK.out.1 HGK.out.2 o p HAT.out HBD.out.1
      unfold o8V at hb
      have HBO := Lib.hid hb
      have HM6 := Lib.hid hM6
      have z0 := hM6.cell 0
      have z1 := hM6.cell 1
      have z2 := hM6.cell 2
      have z3 := hM6.cell 3
      have z4 := hM6.cell 4
      have z5 := hM6.cell 5
      have z6 := hM6.cell 6
      simp only [List.getElem?_toArray, List.getElem?_cons_zero, List.getElem?_cons_succ] at z0 z1 z2 z3 z4 z5 z6
      have HDD := Lib.hid hdd
      clear hg6 hM6 hgw6 hT6 hb hdd q0 q1 q2 q3 q4 q5 q6
      go_wp2_with (fail)
      refine HD6.out.mono ?_
      rintro e w6' ⟨rfl, rfl⟩
      go_wp2_with (fail)
      refine HBO.out.mono ?_
      rintro e w7 ⟨rfl, ⟨x', ht, hg⟩, hs⟩
      rw [HBD.out.2.2.2] at hg
      have hm7 := HM6.out.same (hs.same _ HM6.out.lt fun e => e.2 ⟨Nat.le_refl _, HM6.out.lt⟩)
      have c7 := hm7.cell 0
      simp only [List.getElem?_toArray, List.getElem?_cons_zero, List.getElem?_cons_succ] at c7
      have HR7 := Lib.hid (row_same HR6.out fun k hk => hs.same k (HR6.out.lt k hk).2 fun e => e.2 ⟨by have := (HR6.out.lt k hk).1; have := HL6.out; omega, (HR6.out.lt k hk).2⟩)
      have hdn := o8_done (m := m) (by rw [HDD.out]; have := HDN.out; have := HBD.out; omega) o
      have hon := fun hw => o8_onward (m := m) (by rw [HDD.out]; have := HDN.out; have := HBD.out; omega) o hw
      obtain ⟨m', hm'⟩ : ∃ m', o8on o m = m' := ⟨_, rfl⟩
      rw [hm'] at ht hg hdn hon
      obtain ⟨d7, hd7⟩ : ∃ d7, m'.done = d7 := ⟨_, rfl⟩
      have ht' := ht.less (out' := fun _ => False) fun k hk => hk.elim
      have hdo := ht'.done
      rw [hd7] at hdo
      have HDO := Lib.hid hdo
      rw [hd7, HDD.out] at hdn
      have HT7 := Lib.hid ht'
      have HG7 := Lib.hid hg
      have HON := Lib.hid hon
      have HD7 := Lib.hid hd7
      have HE := Lib.hid (show 0 ≤ m'.done ∧ m'.done ≤ (j + 1 : Nat) from by rw [hd7]; have := HDN.out; omega)
      clear ht ht' hg hs hm7 hdn hon hm' hd7 hdo
      by_cases hw7 : o.what < 7
      rotate_left 1
      · go_wp2_with (fail)
        exact ⟨⟨j + 1, m', x', HLT.out, rfl, HT7, HG7, HE⟩, less_one HLT.out⟩
      by_cases hde : d7 = dd
      rotate_left 1
      · have hdq : (d7 == dd) = false := by rw [beq_eq_false_iff_ne]; exact hde
        clear hde
        go_wp2_with (fail)
        refine HDO.out.mono ?_
        rintro e w8 ⟨rfl, rfl⟩
        go_wp2_with (fail)
        exact ⟨⟨j + 1, m', x', HLT.out, rfl, HT7, HG7, HE⟩, less_one HLT.out⟩
      subst hde
      have hsame : m'.names = m.names ∧ m'.used = m.used := by
        rcases HON.out hw7 with h | h
        · exact h.2
        · exfalso; rw [HD7.out, HDD.out] at h; omega
      have hli := HT7.out.list HG7.out (by have := HBD.out; have h2 := o8all_take os (j + 1); have h3 := HALL.out; omega)
      rw [hsame.1, HNN.out.2.1, HNN.out.1] at hli
      have hu7 := fun w' (hg : Grows w7 w') => (HT7.out.grow hg).used
      rw [hsame.2, HUE.out] at hu7
      have HLI := Lib.hid hli
      have HU7 := Lib.hid hu7
      clear hsame hli hu7
      go_wp2_with (fail)
      refine HDO.out.mono ?_
      rintro e w8 ⟨rfl, rfl⟩
      go_wp2_with (fail)
      refine HLI.out.mono ?_
      rintro e w8 ⟨LB, lb, rfl, hr8, hg8⟩
      have hsn := same_names LB nn lb LA nn lc ns ns w8 hr8 (hg8.row (Row.owned HR7.out)) (by have := HNN.out; omega)
      rw [decide_eq_true (Eq.refl ns)] at hsn
      have HSN := Lib.hid hsn
      have HG8' := Lib.hid hg8
      clear hr8 hg8 hsn
      go_wp2_with (fail)
      refine HSN.out.mono ?_
      rintro e w9 ⟨rfl, hg9⟩
      have HG9 := Lib.hid (Grows.trans HG8'.out hg9)
      clear hg9
      go_wp2_with (fail)
      refine (HU7.out w9 HG9.out).mono ?_
      rintro e w10 ⟨rfl, rfl⟩
      go_wp2_with (fail)
      exact ⟨⟨j + 1, m', x', HLT.out, rfl, Lib.hid (HT7.out.grow HG9.out), HG7, HE⟩, less_one HLT.out⟩
    · obtain rfl : j = n0 := by omega
      go_wp2_with (fail)
      go_ret
      exact ⟨rfl, HW.out.low⟩

set_option maxRecDepth 100000 in
theorem diskNothing_lifted (os : Os) (started : os.Started) (H : Type) (enc : TypeId × Value → H) :
    ReturnsInHanded {} Try.checked os 5 .any (Rows.diskNothingSpec.pre6 enc Try.prog Try.f5 Rows.diskNothingRow.domain false) (Rows.diskNothingSpec.post enc Try.prog Try.f5 false true false false) := by
  refine lift_law (C := Try.checked) H enc own started (by kernel_rfl) Try.func5
    (ChangeSpec.witness6 (enc := enc) (C := Try.checked) false ⟨#[], #[.int .i64 0, .slice none 0 0], []⟩ 16 (by kernel_rfl) (by kernel_rfl) (by kernel_rfl) (by kernel_rfl))
    laidOut (of_readable (by kernel_rfl)) rfl Try.underlying4 rfl (fun ds hd => ?_) (fun W base args ds p hval hA hsz => ?_)
  · match ds, hd with
    | [d1, d2], _ => rfl
  · rw [Try.params5] at hA hval hsz
    obtain ⟨v0, vs0, d0, ds0, p0, q0, hargs, rfl, rfl, h0, r0⟩ := trodAll_cons hA
    obtain ⟨v1, vs1, d1, ds1, p1, q1, rfl, rfl, rfl, h1, r1⟩ := trodAll_cons r0
    obtain ⟨rfl, rfl, rfl⟩ := trodAll_nil r1
    obtain rfl : args = #[v0, v1] := by cases args; simp_all
    obtain ⟨a0, rfl, _, _, w0⟩ := open_int Try.underlying3 (hval 0 3 v0 rfl rfl) h0
    have b0 := bounds_i64 w0
    obtain ⟨A1, n1, c1, xs1, rfl, hx1⟩ := open_ops8 (hval 1 22 v1 rfl rfl) h1 hsz (j := 1) rfl rfl
    exact diskNothing_law W a0 (by omega) A1 n1 c1 xs1 hx1

theorem diskNothing_over : Rows.diskNothingRow.holds Try.pinned (OpenSpec.ofChange Rows.diskNothingSpec) :=
  OpenClaim.holds_of_wide 5 Try.f5 rfl rfl rfl rfl rfl rfl rfl ⟨rfl, rfl, rfl, rfl, rfl⟩ rfl rfl rfl rfl rfl (by kernel_rfl) Try.func5 (by kernel_rfl)
    (of_decide_eq_true (by kernel_rfl)) (by unfold Func.isWrapper; first | (rw [if_pos (by decide +kernel)]; kernel_rfl) | (rw [if_neg (by decide +kernel)]; exact ⟨rfl, rfl⟩))
    (fun os started H enc _ => diskNothing_lifted os started H enc)
theorem diskNothing_holds : Rows.DiskNothingSaid := diskNothing_over
end Go.Proofs.Ytgemjdacnomnhaa
