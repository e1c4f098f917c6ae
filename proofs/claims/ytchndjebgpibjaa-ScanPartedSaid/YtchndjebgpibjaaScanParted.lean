/-
  ScanParted holds of any bodies: bytes that are parted between frames have the bodies of both parts, the second ones further on; no condition.
-/
import Derived.Test.YtchndjebgpibjaaShift
namespace Go.Proofs.Ytchndjebgpibjaa
open Go.ChangeShapes Go.WideShapes Go.ChangeAt Go.RowKit

set_option maxRecDepth 100000 in
set_option maxHeartbeats 8000000 in
theorem parted_law {w : World} (A : Option Addr) (n c : Nat) (ls : List (List UInt8)) (hs : Lists w A n c ls) (hcc : c ≤ 140737488351232) (B : Option Addr) (m d : Nat) (ks : List (List UInt8)) (hq : Lists w B m d ks) (hdd : d ≤ 140737488351232) :
    Calls Try.prog 7 #[.slice A n c, .slice B m d] w fun e w' => e = .returned (.bool true) ∧ Below w.heap.size w w' := by
  have HC := Lib.hid hs
  have HD := Lib.hid hq
  clear hs hq
  have hn : n ≤ 140737488351232 := by have := HC.out.cap; omega
  have hm : m ≤ 140737488351232 := by have := HD.out.cap; omega
  go_enter Try.func7, Try.ntmps7
  go_wp2_with (fail)
  refine (head3_any _).mono ?_
  rintro e w1 ⟨rfl, hb1⟩
  have HG1 := Lib.hid (show Grows w w1 from hb1)
  clear hb1
  go_wp2_with (fail)
  refine (great_any A n c ls w1 (HC.out.grow HG1.out) hn).mono ?_
  rintro e w1' ⟨g, rfl, hsm, rfl⟩
  have HSM := Lib.hid hsm
  clear hsm
  rcases g with _ | _
  rotate_left 1
  · go_wp2_with (fail)
    go_ret
    exact ⟨rfl, HG1.out⟩
  have HS := Lib.hid (HSM.out rfl)
  clear HSM
  go_wp2_with (fail)
  refine (great_any B m d ks w1 (HD.out.grow HG1.out) hm).mono ?_
  rintro e w1' ⟨g, rfl, hsm, rfl⟩
  have HSM := Lib.hid hsm
  clear hsm
  rcases g with _ | _
  rotate_left 1
  · go_wp2_with (fail)
    go_ret
    exact ⟨rfl, HG1.out⟩
  have HZ := Lib.hid (HSM.out rfl)
  have hbx := small_put HS.out
  have hby := small_put HZ.out
  have hcx := itsL_count ls 0
  have hcy := itsL_count ks 0
  clear HSM
  go_wp2_with (fail)
  refine (put_rows A n c ls w1 (HC.out.grow HG1.out) HS.out).mono ?_
  rintro e w2 ⟨OA, oc, IA, ic, hh, rfl, ho2, -, -, hb2⟩
  have g2 : Grows w1 w2 := hb2
  have HX2 := Lib.hid (Sl.owned ho2)
  have HG2 := Lib.hid (Grows.trans HG1.out g2)
  clear ho2 hb2 g2 HG1
  go_wp2_with (fail)
  refine (put_rows B m d ks w2 (HD.out.grow HG2.out) HZ.out).mono ?_
  rintro e w3 ⟨PA, pc, JA, jc, gg, rfl, ho3, -, -, hb3⟩
  have g3 : Grows w2 w3 := hb3
  have HY3 := Lib.hid (Sl.owned ho3)
  have HX3 := Lib.hid (HX2.out.grow g3)
  have HG3 := Lib.hid (Grows.trans HG2.out g3)
  clear ho3 hb3 g3 HG2 HX2
  have hsy := fun (t : It) (h : t ∈ itsL ks 0) => itsL_sizes ks 0 t h
  have h8 := fun A n c w h => all_in A n c (putL ls ++ putL ks) w h
  have h4 := fun w h => all_in OA (putL ls).length oc (putL ls) w h (by omega)
  rw [all_put0 ls] at h4
  dsimp only at h4
  have h5 := fun w h => all_in PA (putL ks).length pc (putL ks) w h (by omega)
  rw [all_put0 ks] at h5
  dsimp only at h5
  have h6 := all_put0 (ls ++ ks)
  rw [putL_append, itsL_append, Nat.zero_add, List.length_append] at h6
  have h7 := itsL_move ks 0 (putL ls).length
  rw [Nat.zero_add] at h7
  rw [← h7] at h6
  clear h7
  generalize itsL ls 0 = ts at *
  generalize itsL ks 0 = us at *
  generalize putL ls = xs at *
  generalize putL ks = ys at *
  have H4 := Lib.hid h4
  have H5 := Lib.hid h5
  have H6 := Lib.hid h6
  have H8 := Lib.hid h8
  have HSY := Lib.hid hsy
  clear h4 h5 h6 h8 hsy
  have htx : ts.length ≤ 30000 := by omega
  have hty : us.length ≤ 30000 := by omega
  go_wp2_with (fail)
  refine (H4.out w3 HX3.out).mono ?_
  rintro e w4 ⟨LA, lc, lh, rfl, lo4, lb4, hb4⟩
  have g4 : Grows w3 w4 := hb4
  have HX4 := Lib.hid (HX3.out.grow g4)
  have HY4 := Lib.hid (HY3.out.grow g4)
  have HG4 := Lib.hid (Grows.trans HG3.out g4)
  have HLO := Lib.hid (owned_from lo4 HG3.out.size)
  have HLB := Lib.hid (lb4.from HG3.out.size)
  clear lo4 lb4 hb4 g4 HG3 HX3 HY3
  go_wp2_with (fail)
  refine (H5.out w4 HY4.out).mono ?_
  rintro e w5 ⟨MA, mc, mh, rfl, mo5, mb5, hb5⟩
  have g5 : Grows w4 w5 := hb5
  have HX5 := Lib.hid (HX4.out.grow g5)
  have HY5 := Lib.hid (HY4.out.grow g5)
  have HG5 := Lib.hid (Grows.trans HG4.out g5)
  have HL5 := Lib.hid (owned_grow HLO.out g5)
  have HB5 := Lib.hid (HLB.out.step fun v n ys h => owned_grow h g5)
  have HMO := Lib.hid mo5
  have HMB := Lib.hid mb5
  have HLW := Lib.hid (fun g (h : (Value.slice LA ts.length lc).ownBlock = some g) => (HLO.out.lt g h).2)
  have HS45 := Lib.hid HG4.out.size
  have SZ5 := Lib.hid g5.size
  clear mo5 mb5 hb5 g5 HX4 HY4 HLO HLB
  go_wp2_with (fail)
  go_loopw [18] (fun i wr => ∃ k : Nat, k ≤ us.length ∧ i = .int .i64 (k : Nat) ∧ Hid (wr.ownsRow w4.heap.size 29 3 (.slice MA us.length mc) us.length (itCells (shiftK xs.length k us) mh)) ∧ Hid (wr.ownsRow w.heap.size 29 3 (.slice LA ts.length lc) ts.length (itCells ts lh)) ∧
      Hid (Bodies wr w.heap.size lh ts) ∧ Hid (Bodies wr w4.heap.size mh us) ∧ Hid (Sl wr OA xs.length oc xs) ∧ Hid (Sl wr PA ys.length pc ys) ∧ Hid (Below w.heap.size w wr) ∧ Hid (w4.heap.size ≤ wr.heap.size)) (fun i _ => us.length - (intOf i).toNat)
  case atStart => exact ⟨0, by omega, rfl, HMO, HL5, HB5, HMB, HX5, HY5, HG5, SZ5⟩
  case round =>
    obtain ⟨k, hk, rfl, HM, HL, HB, HMB', HX, HY, HG, HSZ⟩ := hrel
    by_cases hlt : k < us.length
    · obtain ⟨g, cap, hform, hgb, hgl⟩ := HM.out.form (by omega)
      injection hform with h1 h2 h3
      subst h1 h3
      obtain ⟨t, ht⟩ : ∃ t, us[k]? = some t := ⟨_, List.getElem?_eq_getElem hlt⟩
      have hsh := shiftK_at xs.length k us t ht
      have hlen := shiftK_length xs.length k us hk
      have hget := (itCells_get (shiftK xs.length k us) mh k t (mh.getD k (none, 0, 0)) hsh (by
        have := HMB'.out.1
        rw [List.getD_eq_getElem?_getD, List.getElem?_eq_getElem (by omega)]
        rfl)).1
      have hc := HM.out.cells (g := g) rfl (3 * k) _ hget
      have hfz := HM.out.frozenAt (g := g) (3 * k)
      have ht1 : t.1 ≤ 400000 := by have := (HSY.out t (List.mem_of_getElem? ht)).2.1; omega
      have hset := itCells_set (shiftK xs.length k us) mh k t (t.1 + xs.length) (by rw [hlen]; exact HMB'.out.1.symm) hsh
      rw [show (t.1 + xs.length, t.2) = moveI xs.length t from rfl, shiftK_next xs.length k us t ht] at hset
      have HSET := Lib.hid hset
      have k0 : (0 : Int) ≤ (k : Int) := by omega
      have k1 : (k : Int) < (us.length : Int) := by omega
      have hadd : (⟨g, 0, none⟩ : Addr).add (k * 3) = ⟨g, k * 3, none⟩ := by unfold Addr.add; split <;> simp_all
      obtain ⟨t0, t1, t2⟩ := t
      dsimp only at hc ht1
      rw [Nat.mul_comm, hadd] at hc
      rw [Nat.mul_comm] at hfz
      clear ht hsh hget hadd hset
      go_wp2_with (fail)
      go_roundw
      case rel =>
        have hst := HM.out.stored (k * 3) (.int .i64 ((t0 + xs.length : Nat) : Int))
        have hs1 := HSET.out
        dsimp only at hs1
        rw [hs1] at hst
        rw [Int.natCast_add] at hst
        have hL' := HL.out.kept hst.2 (by
          rcases hv : (Value.slice LA ts.length lc).ownBlock with _ | h
          · exact .inl rfl
          · exact .inr (by rw [← hv]; intro e; have h1 := HLW.out g (by rw [← e]) ; omega))
        have kept : ∀ (base size : Nat) (v : Value) (n : Nat) (zs : List Value), wr.ownsRow base 5 size v n zs → (wr.setCell ⟨g, k * 3, none⟩ (.int .i64 ((t0 : Int) + (xs.length : Int)))).ownsRow base 5 size v n zs := fun base size v n zs h => h.kept hst.2 (own_apart h HM.out (by decide))
        exact ⟨k + 1, by omega, by go_num, Lib.hid hst.1, Lib.hid hL', Lib.hid (HB.out.step fun v n zs h => kept _ _ v n zs h), Lib.hid (HMB'.out.step fun v n zs h => kept _ _ v n zs h), Lib.hid (HX.out.put hc (fun b h => by cases h) _), Lib.hid (HY.out.put hc (fun b h => by cases h) _),
          Lib.hid (HG.out.setCell (p := ⟨g, k * 3, none⟩) (Nat.le_trans HG4.out.size hgb) _), Lib.hid (by have := HSZ.out; simpa [World.setCell] using this)⟩
      case measure => simp [intOf]; omega
    · obtain rfl : k = us.length := by omega
      have hM := HM.out
      rw [shiftK_all] at hM
      have HM' := Lib.hid hM
      clear hM
      go_wp2_with (first
        | (at_builtin
           refine list_append_sl rfl (.tmp 74) (.tmp 75) rfl rfl (owned_none wr) (A := OA) (m := xs.length) (c := oc) rfl (HX.out.alloc _) xs.length (by omega) xs rfl (by omega) (le_alloc _ _) ?_
           intro A6 c6 w6 hown6 hb6
           have HO6 := Lib.hid hown6
           have HW6 := Lib.hid (show Grows wr w6 from Below.trans (grows_alloc _ _) hb6)
           clear hown6 hb6)
        | (at_builtin
           refine list_append_sl rfl (.tmp 76) (.tmp 77) rfl rfl HO6.out (A := PA) (m := ys.length) (c := pc) rfl (HY.out.grow HW6.out) (xs.length + ys.length) rfl (xs ++ ys) rfl (by omega) HW6.out.size ?_
           intro A7 c7 w7 hown7 hb7
           have HO7 := Lib.hid (Sl.owned hown7)
           have HW7 := Lib.hid (show Grows wr w7 from Below.trans HW6.out hb7)
           clear hown7 hb7))
      have h9 := H8.out A7 (xs.length + ys.length) c7 w7 HO7.out (by omega)
      rw [H6.out] at h9
      dsimp only at h9
      refine h9.mono ?_
      clear h9
      rintro e w8 ⟨A8, c8, hh8, rfl, ao8, ab8, hb8⟩
      have g8 : Grows w7 w8 := hb8
      have hlen8 : (ts ++ us.map (moveI xs.length)).length = ts.length + us.length := by rw [List.length_append, List.length_map]
      rw [hlen8] at ao8
      rw [hlen8]
      have W8 := Grows.trans HW7.out g8
      have HL8 := Lib.hid (owned_grow HL.out W8)
      have HM8 := Lib.hid (owned_grow HM'.out W8)
      have HB8 := Lib.hid (HB.out.step fun v n zs h => owned_grow h W8)
      have HD8 := Lib.hid (HMB'.out.step fun v n zs h => owned_grow h W8)
      have HA8 := Lib.hid ao8
      have HAB8 := Lib.hid ab8
      have HG8 := Lib.hid (Below.trans HG.out (Below.mono W8 HG.out.size))
      have hml : (us.map (moveI xs.length)).length = mh.length := by rw [List.length_map]; exact HMB'.out.1.symm
      have hrow := row_own hml (by rw [List.length_map]) HM8.out
      have HROW := Lib.hid hrow
      have HWS := Lib.hid HW7.out.size
      have HHL := Lib.hid (And.intro hml hlen8)
      have FIN : Hid (∀ (w9 : World) (A9 : Option Addr) (c9 : Nat), w9.ownsRow w.heap.size 29 3 (.slice A9 (ts.length + us.length) c9) (ts.length + us.length) (itCells ts lh ++ itCells (us.map (moveI xs.length)) mh) →
          (∀ (b' size : Nat) (v : Value) (m : Nat) (ys : List Value), w8.ownsRow b' 5 size v m ys → w9.ownsRow b' 5 size v m ys) → w8.grownBy w9 (Value.slice LA ts.length lc).ownBlock →
          Items w9 A8 (ts.length + us.length) c8 (ts ++ us.map (moveI xs.length)) ∧ Items w9 A9 (ts.length + us.length) c9 (ts ++ us.map (moveI xs.length))) := Lib.hid fun w9 A9 c9 hown9 hk9 hg9 => by
        rw [← itCells_append _ _ _ _ HB8.out.1.symm] at hown9
        refine ⟨items_own HHL.out.2 (HA8.out.kept hg9 ?_) (HAB8.out.step fun v n zs h => hk9 _ _ _ _ _ h), Items.owned ?_ HHL.out.2 hown9 (Lies.append (HB8.out.step fun v n zs h => hk9 _ _ _ _ _ h).lies ((HD8.out.step fun v n zs h => hk9 _ _ _ _ _ h).lies.moved _)).2⟩
        · rcases hv : (Value.slice A8 (ts.length + us.length) c8).ownBlock with _ | h
          · exact .inl rfl
          · refine .inr fun e => ?_
            have h1 := (HA8.out.lt h hv).1
            have h2 := HLW.out h e.symm
            have h3 := HSZ.out
            have h4 := HWS.out
            omega
        · rw [HHL.out.2, List.length_append, HB8.out.1, HD8.out.1]
      clear ao8 ab8 hb8 g8 W8 hlen8 hml hrow
      go_wp2_with (at_builtin
                   refine list_append_items (by rfl) (.tmp 93) (.tmp 94) rfl (v := .slice LA ts.length lc) rfl HL8.out rfl HROW.out.1 HROW.out.2.2 HROW.out.2.1 (by omega) HG8.out.size ?_
                   intro A9 c9 w9 hown9 hb9 hk9 hg9
                   have HI9 := Lib.hid (FIN.out w9 A9 c9 hown9 hk9 hg9)
                   have HG9 := Lib.hid (show Below w.heap.size w w9 from Below.trans HG8.out hb9)
                   clear hown9 hb9 hk9 hg9)
      have hsame := same_any A8 (ts.length + us.length) c8 (ts ++ us.map (moveI xs.length)) A9 (ts.length + us.length) c9 (ts ++ us.map (moveI xs.length)) _ HI9.out.1 HI9.out.2 (by omega) (by omega)
      rw [decide_eq_true rfl] at hsame
      refine hsame.mono ?_
      clear hsame
      rintro e w10 ⟨rfl, hb10⟩
      have HG10 := Lib.hid (Below.trans HG9.out (Below.mono hb10 HG9.out.size))
      clear hb10
      go_wp2_with (fail)
      go_ret
      exact ⟨rfl, HG10.out⟩

set_option maxRecDepth 100000 in
theorem scanParted_lifted (os : Os) (started : os.Started) (H : Type) (enc : TypeId × Value → H) :
    ReturnsInHanded {} Try.checked os 7 .any (Rows.scanPartedSpec.pre6 enc Try.prog Try.f7 Rows.scanPartedRow.domain false) (Rows.scanPartedSpec.post enc Try.prog Try.f7 false true false false) := by
  refine lift_law (C := Try.checked) H enc own started (by kernel_rfl) Try.func7
    (ChangeSpec.witness6 (enc := enc) (C := Try.checked) false ⟨#[], #[.slice none 0 0, .slice none 0 0], []⟩ 16 (by kernel_rfl) (by kernel_rfl) (by kernel_rfl) (by kernel_rfl))
    laidOut (of_readable (by kernel_rfl)) rfl Try.underlying4 rfl (fun ds hd => ?_) (fun W base args ds p hval hA hsz => ?_)
  · match ds, hd with
    | [d1, d2], _ => rfl
  · rw [Try.params7] at hA hval hsz
    obtain ⟨v0, vs0, d0, ds0, p0, q0, hargs, rfl, rfl, h0, r0⟩ := trodAll_cons hA
    obtain ⟨v1, vs1, d1, ds1, p1, q1, rfl, rfl, rfl, h1, r1⟩ := trodAll_cons r0
    obtain ⟨rfl, rfl, rfl⟩ := trodAll_nil r1
    obtain rfl : args = #[v0, v1] := by cases args; simp_all
    obtain ⟨A0, n0, c0, xs0, rfl, hx0, hc0⟩ := open_rows Try.underlying34 Try.underlying22 Try.underlying5 (by kernel_rfl) (by kernel_rfl) (by kernel_rfl) (hval 0 34 v0 rfl rfl) h0 hsz (j := 0) rfl rfl
    obtain ⟨A1, n1, c1, xs1, rfl, hx1, hc1⟩ := open_rows Try.underlying34 Try.underlying22 Try.underlying5 (by kernel_rfl) (by kernel_rfl) (by kernel_rfl) (hval 1 34 v1 rfl rfl) h1 hsz (j := 1) rfl rfl
    exact parted_law A0 n0 c0 xs0 hx0 hc0 A1 n1 c1 xs1 hx1 hc1

theorem scanParted_over : Rows.scanPartedRow.holds Try.pinned (OpenSpec.ofChange Rows.scanPartedSpec) :=
  OpenClaim.holds_of_wide 7 Try.f7 rfl rfl rfl rfl rfl rfl rfl ⟨rfl, rfl, rfl, rfl, rfl⟩ rfl rfl rfl rfl rfl (by kernel_rfl) Try.func7 (by kernel_rfl)
    (of_decide_eq_true (by kernel_rfl)) (by unfold Func.isWrapper; first | (rw [if_pos (by decide +kernel)]; kernel_rfl) | (rw [if_neg (by decide +kernel)]; exact ⟨rfl, rfl⟩))
    (fun os started H enc _ => scanParted_lifted os started H enc)
theorem scanParted_holds : Rows.ScanPartedSaid := scanParted_over
end Go.Proofs.Ytchndjebgpibjaa
