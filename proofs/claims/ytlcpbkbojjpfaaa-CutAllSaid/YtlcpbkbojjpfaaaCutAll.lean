/-
  Statement CutAll: pieces and the rest, one behind the other, are what was written, in however many Writes; all pieces are full, and the rest is not. Every size, all lists of bytes, no condition.
-/
import Derived.Test.YtlcpbkbojjpfaaaCutSt
import Derived.Test.YtlcpbkbojjpfaaaRowsIn2
import Derived.ProofKit
import Derived.ChangeOld
namespace Go.Proofs.Ytlcpbkbojjpfaaa
open Go.ChangeShapes Go.WideShapes Go.ChangeAt Go.RowKit
set_option linter.unusedSimpArgs false
set_option linter.unusedVariables false

theorem div_of {Q P lx na ng : Nat} (h1 : Q * P = ng) (h2 : ng + lx = na) (h3 : lx < P) : na / P = Q := by
  refine Nat.div_eq_of_lt_le (by omega) ?_
  rw [Nat.add_mul]
  omega
theorem take_flat_le (ps : List (List UInt8)) (k : Nat) : (ps.take k).flatten.length ≤ ps.flatten.length := by
  conv => rhs; rw [← List.take_append_drop k ps, List.flatten_append, List.length_append]
  omega
theorem take_flat_one {ps : List (List UInt8)} {k : Nat} (h : k < ps.length) : (ps.take (k + 1)).flatten = (ps.take k).flatten ++ ps.getD k [] := by
  rw [List.take_add_one, List.getElem?_eq_getElem h, List.flatten_append]
  simp [h]
theorem flat_full {ps : List (List UInt8)} {P : Nat} (h : ∀ l ∈ ps, l.length = P) : ps.flatten.length = ps.length * P := by
  induction ps with
  | nil => simp
  | cons x xs ih =>
    rw [List.flatten_cons, List.length_append, h x (by simp), ih (fun l hl => h l (by simp [hl])), List.length_cons, Nat.add_mul]
    omega
theorem mul_le_of {Q P ng : Nat} (h : Q * P = ng) (hP : 1 ≤ P) (hn : ng ≤ 20000) : Q ≤ 20000 := by
  have : Q * 1 ≤ Q * P := Nat.mul_le_mul_left _ hP
  omega
theorem le_k1 {q : Nat} (h : q ≤ 40000) : q + 1 ≤ 1000000000000000 := by omega
theorem le_tera {q : Nat} (h : q ≤ 20000) : q ≤ 1000000000000 := by omega
theorem mul_sum {Q k P ng nk gl : Nat} (h3 : Q * P = ng) (h1 : gl + k * P = nk) (h4 : gl = ng) : (Q + k) * P = nk := by
  rw [Nat.add_mul, h3, ← h4, h1]
theorem nat20000 {n : Nat} (h : ¬ (20000 : Int) < (n : Int)) : n ≤ 20000 := by omega
set_option maxRecDepth 100000 in
set_option maxHeartbeats 8000000 in
theorem cutAll_law (w : World) (s : Int) (hs : 0 ≤ s ∧ s < 65536) (A : Option Addr) (n c : Nat) (ls : List (List UInt8)) (hx : Lists w A n c ls) (hc : c ≤ 140737488351232) (hb : ∀ l ∈ ls, l.length ≤ 140737488351232) :
    Calls Try.prog 6 #[.int .u16 s, .slice A n c] w fun e w' => e = .returned (.bool true) ∧ Below w.heap.size w w' := by
  obtain ⟨S, rfl⟩ := Int.eq_ofNat_of_zero_le hs.1
  have HX := Lib.hid hx
  have HLB := Lib.hid hb
  have hnc := hx.cap
  have HLEN := Lib.hid hx.len
  obtain ⟨P, hP⟩ : ∃ P, 1 + S % 4096 = P := ⟨_, rfl⟩
  have hPi : (1 : Int) + (S : Int) % 4096 = (P : Int) := by omega
  have HPB := Lib.hid (show 1 ≤ P ∧ P ≤ 4096 by omega)
  obtain ⟨kw, kw2⟩ := fit_one S (by omega)
  have kp : IntKind.i64.wrap ((1 : Int) + (S : Int) % 4096) = (P : Int) := by rw [IntWalk.i64_in _ (by omega)]; exact hPi
  have kp2 : wrap64 ((1 : Int) + (S : Int) % 4096) = (P : Int) := by rw [IntWalk.wrap64_in _ (by omega)]; exact hPi
  clear hx hs hP hb
  go_enter Try.func6, Try.ntmps6
  go_wp2_with (fail)
  refine (cutHead_any w).mono ?_
  rintro e w0 ⟨rfl, hb0⟩
  have HG0 := Lib.hid (show Grows w w0 from hb0)
  clear hb0
  go_wp2_with (fail)
  clear kw kw2 kp kp2 hPi
  refine (make_cut P w0 HPB.out).mono ?_
  rintro e w1 ⟨rfl, hc1, hg1⟩
  have H1 := Lib.hid (And.intro hc1 hg1)
  have hgw := hc1.cells.lt
  clear hc1 hg1
  go_wp2_with (fail)
  go_loopw [8, 9, 10, 11] (fun va vg vm vi wr => ∃ (i : Nat) (LA : Option Addr) (na ca : Nat) (LG : Option Addr) (ng cg Q : Nat) (v : Value) (L T G : List UInt8), i ≤ n ∧ na ≤ 20000 ∧ va = .slice LA na ca ∧ vg = .slice LG ng cg ∧ vm = .int .i64 (Q : Nat) ∧ vi = .int .i64 (i : Nat) ∧
    Hid (AllSt wr w0.heap.size w0.heap.size P na v L (.slice LA na ca) T (.slice LG ng cg) G) ∧ Hid (T.length = na ∧ G.length = ng ∧ G ++ L = T ∧ Q * P = ng) ∧ Hid (Below w0.heap.size w0 wr)) (fun _ _ _ i _ => n - (intOf i).toNat)
  case atStart => exact ⟨0, none, 0, 0, none, 0, 0, 0, _, [], [], [], Nat.zero_le _, by omega, rfl, rfl, rfl, rfl, Lib.hid ⟨H1.out.1, World.ownsRow_nil _ _ _ _, World.ownsRow_nil _ _ _ _, .inl rfl, .inl rfl, .inl rfl⟩, Lib.hid ⟨rfl, rfl, rfl, by simp⟩, Lib.hid H1.out.2⟩
  case round =>
    obtain ⟨i, LA, na, ca, LG, ng, cg, Q, v, L, T, G, hi, hna, rfl, rfl, rfl, rfl, HST, HEQ, HB⟩ := hrel
    by_cases hlt : i < n
    · have hww : Below w.heap.size w wr := Grows.trans HG0.out HB.out
      obtain ⟨ad, BX, mx, dx, rfl, hblk, hcx, hsx⟩ := HX.out.get hlt
      have hcw : wr.cell? (ad.add i) = some (.slice BX mx dx) := by
        rw [hww.cell (by rw [add_block]; exact hblk)]
        exact hcx
      obtain ⟨y, hy⟩ : ∃ y, ls.getD i [] = y := ⟨_, rfl⟩
      rw [hy] at hsx
      have hyl : y.length ≤ 140737488351232 := by
        refine HLB.out y ?_
        rw [← hy, List.getD_eq_getElem?_getD, List.getElem?_eq_getElem (by rw [HLEN.out]; exact hlt)]
        exact List.getElem_mem _
      have hmx := hsx.len
      have HSX := Lib.hid (And.intro hsx (hsx.grow hww))
      have i0 : (0 : Int) ≤ (i : Int) := by omega
      have i1 : (i : Int) < (n : Int) := by omega
      have ii : IntKind.i64.wrap ((i : Int) + 1) = (i : Int) + 1 := IntWalk.i64_in _ (by omega)
      obtain ⟨ks, ks2⟩ := fit_sumB na mx (na + mx) rfl (by omega)
      have HMX := Lib.hid hmx
      have HCX := Lib.hid (And.intro hcx hblk)
      clear hcx hsx hy hyl hww hblk hmx
      by_cases hbig : (20000 : Int) < ((na + mx : Nat) : Int)
      · go_wp2_with (fail)
        go_ret
        exact ⟨rfl, Grows.trans HG0.out HB.out⟩
      have hsm := nat20000 hbig
      have HSM := Lib.hid hsm
      have hbig' : ¬ (20000 : Int) < (na : Int) + (mx : Int) := by omega
      have HALL := Lib.hid (show wr.ownsRow w0.heap.size 5 1 (.slice LA na ca) na (T.map byteV) from HEQ.out.1 ▸ HST.out.all)
      clear hbig
      go_wp2_with (at_builtin
                   refine list_app_own rfl (.tmp 40) (.tmp 44) rfl (base := w0.heap.size) rfl HALL.out (A := BX) (m := mx) (c := dx) rfl HSX.out.2 (na + mx) rfl (by omega) HB.out.size ?_
                   intro LA1 ca1 w2 ho2 hg2 hv2
                   have hcw2 : w2.cell? (ad.add i) = some (.slice BX mx dx) := by
                     rw [(Grows.trans HG0.out (Below.trans HB.out ((Below.refl _ wr).grown hg2 HB.out.size fun k hk => (owned_lt HALL.out hk).1))).cell (by rw [add_block]; exact HCX.out.2)]
                     exact HCX.out.1
                   have HO2 := Lib.hid ho2
                   have HGR2 := Lib.hid hg2
                   have HV2 := Lib.hid hv2
                   clear ho2 hg2 hv2)
      obtain ⟨N1, hN1⟩ : ∃ N1, na + mx = N1 := ⟨_, rfl⟩
      have HN1 := Lib.hid hN1
      have hT1 : (T ++ y).length = na + mx := by rw [List.length_append, HEQ.out.1, HMX.out]
      have hst2 := HST.out.more (ys := y) (by rw [hT1]; exact HO2.out) HGR2.out HV2.out
      have hb2 : Below w0.heap.size wr w2 := (Below.refl _ wr).grown HGR2.out HB.out.size fun k hk => (owned_lt HALL.out hk).1
      have hww2 : Below w.heap.size w w2 := Grows.trans HG0.out (Below.trans HB.out hb2)
      have HST2 := Lib.hid hst2
      have HT1 := Lib.hid hT1
      have HB2 := Lib.hid (Below.trans HB.out hb2)
      refine (write_lowF w0.heap.size w0.heap.size P na v L BX mx dx y w2 hst2.cut (Nat.le_refl _) (HSX.out.1.grow hww2) (fun h0 x e => by
        obtain ⟨x', e', hbx, _⟩ := HSX.out.1.bytes.spot (k := 0) h0
        rw [e] at e'
        injection e' with e'
        subst e'
        have := HG0.out.size
        exact ⟨by omega, fun e2 => by have := (owned_lt hst2.cut.left e2).1; omega⟩) HPB.out.2 (by omega) (by omega) HB2.out.size).mono ?_
      rintro e w3 ⟨A3, m3, c3, v3, hs3, rfl, hl3, hc3, hb3, hsp3, hv3⟩
      have hst3 := hst2.wrote hc3 hsp3 hv3
      have hfull := pieces_full (T := L ++ y) (show 0 < P by have := HPB.out; omega)
      have hflat := pieces_all (P := P) (T := L ++ y)
      have hshort := rest_short (P := P) (T := L ++ y) (by have := HPB.out; omega)
      have hm3 := (hl3 w3 (KeepsF.grows (Grows.refl _))).len
      have HB3 := Lib.hid (Below.trans HB2.out hb3)
      have hfl := flat_full hfull
      generalize piecesB P (L ++ y) = ps at *
      generalize restB P (L ++ y) = L3 at *
      have htot : G ++ (ps.flatten ++ L3) = T ++ y := by rw [hflat, ← List.append_assoc, HEQ.out.2.2.1]
      have hsz : G.length + (ps.flatten.length + L3.length) = na + mx := by rw [← hT1, ← htot, List.length_append, List.length_append]
      have HPS := Lib.hid (And.intro hfull (And.intro htot (And.intro hm3 (And.intro hsz (And.intro hshort hfl)))))
      have HST3 := Lib.hid hst3
      have HL3 := Lib.hid hl3
      have HVG := Lib.hid (show ∀ j, (Value.slice LG ng cg).ownBlock = some j → v.ownBlock ≠ some j ∧ j < w2.heap.size from fun j hj => ⟨fun e => by
        rcases hst2.gv with h | h
        · rw [h] at hj; cases hj
        · exact h (hj.trans e.symm), (owned_lt hst2.got hj).2⟩)
      have HS23 := Lib.hid hb3.size
      clear hst2 hb2 hww2 hT1 hst3 hfull hflat hshort hm3 hl3 hc3 hb3 hsp3 hv3 htot hsz hfl hN1 HST
      go_wp2_with (fail)
      go_loopw [9, 10, 13] (fun vg vm vk wz => ∃ (k qk : Nat) (LK : Option Addr) (nk ck : Nat), k ≤ m3 ∧ nk ≤ 20000 ∧ vg = .slice LK nk ck ∧ vm = .int .i64 (qk : Nat) ∧ Hid (qk = Q + k) ∧ vk = .int .i64 (k : Nat) ∧
        Hid (AllSt wz w0.heap.size w0.heap.size P (na + mx) v3 L3 (.slice LA1 (na + mx) ca1) (T ++ y) (.slice LK nk ck) (G ++ (ps.take k).flatten)) ∧ Hid ((G ++ (ps.take k).flatten).length = nk) ∧
        Hid (KeepsF (fun j => v.ownBlock = some j ∨ w2.heap.size ≤ j) v3 w3 wz) ∧ Hid (∀ j, (Value.slice LK nk ck).ownBlock = some j → (v.ownBlock ≠ some j ∧ j < w2.heap.size) ∨ w3.heap.size ≤ j) ∧ Hid (Below w0.heap.size w0 wz)) (fun _ _ k _ => m3 - (intOf k).toNat)
      case atStart => exact ⟨0, Q, LG, ng, cg, Nat.zero_le _, by have := HPS.out.2.2.2.1; have := HEQ.out.2.1; have := HSM.out; omega, rfl, rfl, Lib.hid rfl, rfl, Lib.hid (by rw [List.take_zero, List.flatten_nil, List.append_nil]; exact HST3.out), Lib.hid (by rw [List.take_zero, List.flatten_nil, List.append_nil]; exact HEQ.out.2.1), Lib.hid (KeepsF.grows (Grows.refl _)), Lib.hid (fun j hj => .inl (HVG.out j hj)), HB3⟩
      case round =>
        obtain ⟨k, qk, LK, nk, ck, hk, hnk, rfl, rfl, HQK, rfl, HSK, HNK, HKF, HOW, HBK⟩ := hrel
        by_cases hlk : k < m3
        · obtain ⟨ad3, B5, m5, d5, rfl, hb5, hc5, hs5⟩ := (HL3.out wr HKF.out).lists.get hlk
          obtain ⟨z, hz⟩ : ∃ z, ps.getD k [] = z := ⟨_, rfl⟩
          rw [hz] at hs5
          have hkps : k < ps.length := by rw [HPS.out.2.2.1]; exact hlk
          have hzl : z.length = P := HPS.out.1 z (by
            rw [← hz, List.getD_eq_getElem?_getD, List.getElem?_eq_getElem hkps]
            exact List.getElem_mem _)
          obtain rfl : P = m5 := by rw [← hs5.len, hzl]
          have htk := take_flat_one hkps
          rw [hz] at htk
          have hle := take_flat_le ps (k + 1)
          have hnl : nk + P ≤ 20000 := by
            have h1 := HNK.out
            have h2 := HPS.out.2.2.2.1
            have h3 := HSM.out
            rw [htk] at hle
            rw [List.length_append] at h1 hle
            omega
          have hm40 : m3 ≤ 40000 := by
            have h3 := mul_le_of (HPS.out.2.2.2.2.2).symm HPB.out.1 (by have := HPS.out.2.2.2.1; have := HSM.out; omega)
            rw [HPS.out.2.2.1] at h3
            omega
          have hqk : qk ≤ 40000 := by
            have h1 := HQK.out
            have h2 := mul_le_of HEQ.out.2.2.2 HPB.out.1 (by have := HPS.out.2.2.2.1; have := HSM.out; have := HEQ.out.2.1; omega)
            have h3 := mul_le_of (HPS.out.2.2.2.2.2).symm HPB.out.1 (by have := HPS.out.2.2.2.1; have := HSM.out; omega)
            rw [HPS.out.2.2.1] at h3
            omega
          have kq3 : IntKind.i64.wrap ((qk : Int) + 1) = (qk : Int) + 1 := (fit_sumB qk 1 (qk + 1) rfl (le_k1 hqk)).1
          have kk3 : IntKind.i64.wrap ((k : Int) + 1) = (k : Int) + 1 := (fit_sumB k 1 (k + 1) rfl (le_k1 (Nat.le_trans (Nat.le_of_lt hlk) hm40))).1
          have k0 : (0 : Int) ≤ (k : Int) := by omega
          have k1 : (k : Int) < (m3 : Int) := by omega
          have HGOT := Lib.hid (show wr.ownsRow w0.heap.size 5 1 (.slice LK nk ck) nk ((G ++ (ps.take k).flatten).map byteV) from HNK.out ▸ HSK.out.got)
          have HS5 := Lib.hid hs5
          have HTK := Lib.hid (And.intro htk hzl)
          have HNL := Lib.hid hnl
          clear hm40 hs5 hz hkps hzl htk hle hqk
          go_wp2_with (at_builtin
                       refine list_app_own rfl (.tmp 65) (.tmp 69) rfl (base := w0.heap.size) rfl HGOT.out (A := B5) (m := P) (c := d5) rfl HS5.out (nk + P) rfl (by omega) HBK.out.size ?_
                       intro LK1 ck1 w5 ho5 hg5 hv5
                       have HO5 := Lib.hid ho5
                       have HGR5 := Lib.hid hg5
                       have HV5 := Lib.hid hv5
                       clear ho5 hg5 hv5)
          have hT5 : (G ++ (ps.take k).flatten ++ z).length = nk + P := by rw [List.length_append, HNK.out, HTK.out.2]
          have hst5 := HSK.out.came (ys := z) (by rw [hT5]; exact HO5.out) HGR5.out HV5.out
          have hst5' : AllSt w5 w0.heap.size w0.heap.size P (na + mx) v3 L3 (.slice LA1 (na + mx) ca1) (T ++ y) (.slice LK1 (nk + P) ck1) (G ++ (ps.take (k + 1)).flatten) := by rw [HTK.out.1, ← List.append_assoc]; exact hst5
          have hkf5 : KeepsF (fun j => v.ownBlock = some j ∨ w2.heap.size ≤ j) v3 w3 w5 := HKF.out.step (own := fun j => (Value.slice LK nk ck).ownBlock = some j) (fun j hj => by
            rcases HOW.out j hj with ⟨h1, h2⟩ | h
            · exact .inl fun e => e.elim h1 (fun e => by omega)
            · exact .inr (.inr (.inr h))) ⟨HGR5.out.os, HGR5.out.tape, HGR5.out.output, HGR5.out.size, fun j hj hn => HGR5.out.block j hj fun e => hn e.symm⟩
          have how5 : ∀ j, (Value.slice LK1 (nk + P) ck1).ownBlock = some j → (v.ownBlock ≠ some j ∧ j < w2.heap.size) ∨ w3.heap.size ≤ j := fun j hj => by
            rcases HV5.out with e | e
            · rw [e] at hj
              exact HOW.out j hj
            · rw [e] at hj
              injection hj with hj
              exact .inr (by have := HKF.out.1; omega)
          have hb5' : Below w0.heap.size w0 w5 := Below.trans HBK.out ((Below.refl _ wr).grown HGR5.out HBK.out.size fun j hj => (owned_lt HGOT.out hj).1)
          have H5 := Lib.hid (And.intro hst5' (And.intro hkf5 (And.intro how5 (And.intro hb5' (show (G ++ (ps.take (k + 1)).flatten).length = nk + P by rw [HTK.out.1, ← List.append_assoc]; exact hT5)))))
          clear hT5 hst5 hst5' hkf5 how5 hb5'
          go_roundw
          case rel => exact ⟨k + 1, qk + 1, LK1, nk + P, ck1, by omega, HNL.out, rfl, by go_num, Lib.hid (by have := HQK.out; omega), by go_num, Lib.hid H5.out.1, Lib.hid H5.out.2.2.2.2, Lib.hid H5.out.2.1, Lib.hid H5.out.2.2.1, Lib.hid H5.out.2.2.2.1⟩
          case measure => simp [intOf]; omega
        · obtain rfl : k = m3 := by omega
          obtain ⟨lx, hlx⟩ : ∃ lx, L3.length = lx := ⟨_, rfl⟩
          have hleft := left_cut wr HSK.out.cut
          rw [hlx] at hleft
          have hflat : ps.take k = ps := List.take_of_length_le (by rw [HPS.out.2.2.1]; exact Nat.le_refl _)
          rw [hflat] at HSK HNK
          have hsum : lx + nk = na + mx := by
            have h1 := HNK.out
            have h2 := HPS.out.2.2.2.1
            rw [List.length_append] at h1
            omega
          have hlp : lx < P := by rw [← hlx]; exact HPS.out.2.2.2.2.1
          have hge : decide ((P : Int) ≤ (lx : Int)) = false := by simp; omega
          have hge2 : decide ((lx : Int) ≥ (P : Int)) = false := hge
          have hsumI : (lx : Int) + (nk : Int) = (na : Int) + (mx : Int) := by omega
          obtain ⟨kl, kl2⟩ := fit_sumB na mx (na + mx) rfl (Nat.le_trans (le_tera HSM.out) (by omega))
          have HSUM := Lib.hid (And.intro hsum hlx)
          have HLF := Lib.hid hleft
          have HNEW := Lib.hid (show G ++ ps.flatten ++ L3 = T ++ y ∧ qk * P = nk from ⟨by rw [List.append_assoc]; exact HPS.out.2.1, by
            have h1 := HNK.out
            have h2 := HPS.out.2.2.2.2.2
            have h3 := HEQ.out.2.2.2
            have h4 := HEQ.out.2.1
            rw [List.length_append, h2, HPS.out.2.2.1] at h1
            rw [HQK.out]
            exact mul_sum h3 h1 h4⟩)
          clear hlx hleft hflat hsum
          go_wp2_with (fail)
          refine HLF.out.mono ?_
          rintro e w6 ⟨rfl, rfl⟩
          go_wp2_with (fail)
          refine HLF.out.mono ?_
          rintro e w6 ⟨rfl, rfl⟩
          go_wp2_with (fail)
          go_roundw
          case rel => exact ⟨i + 1, LA1, na + mx, ca1, LK, nk, ck, qk, v3, L3, T ++ y, G ++ ps.flatten, by omega, HSM.out, rfl, rfl, rfl, by go_num, Lib.hid HSK.out, Lib.hid ⟨HT1.out, HNK.out, HNEW.out.1, HNEW.out.2⟩, HBK⟩
          case measure => simp [intOf]; omega
    · obtain rfl : i = n := by omega
      go_wp2_with (fail)
      obtain ⟨X1, dx, rfl, hbare⟩ := HST.out.cut.slice
      have hbase := HB.out.size
      refine (rest_cut wr hbase HST.out.cut).mono ?_
      rintro e W ⟨rfl, ho, hcut, hsp⟩
      have keep : ∀ {u : Value} {m : Nat} {xs : List Value}, wr.ownsRow w0.heap.size 5 1 u m xs → W.ownsRow w0.heap.size 5 1 u m xs := fun {u m xs} h => owned_same h fun k hk => hsp.same k (owned_lt h hk).2 fun e => owned_type h HST.out.cut.cells (by decide) (by rw [hk, e])
      have hall : W.ownsRow w0.heap.size 5 1 (.slice LA na ca) na (T.map byteV) := by
        have h0 := keep HST.out.all
        rw [HEQ.out.1] at h0
        exact h0
      have hgot : W.ownsRow w0.heap.size 5 1 (.slice LG ng cg) ng (G.map byteV) := by
        have h0 := keep HST.out.got
        rw [HEQ.out.2.1] at h0
        exact h0
      have hlp := HST.out.cut.short
      obtain ⟨lx, hlx⟩ : ∃ lx, L.length = lx := ⟨_, rfl⟩
      have hgv := HST.out.gv
      have hag := HST.out.ag
      rw [hlx] at ho hlp hgv
      have hng : ng + lx = na := by
        have h1 := congrArg List.length HEQ.out.2.2.1
        rw [List.length_append, HEQ.out.2.1, hlx, HEQ.out.1] at h1
        exact h1
      have stays : ∀ {u : Value} {m : Nat} {xs : List Value}, W.ownsRow w0.heap.size 5 1 u m xs → Apart u (.slice LG ng cg) → ∀ w', Spares (fun k => (Value.slice LG ng cg).ownBlock = some k) W w' → w'.ownsRow w0.heap.size 5 1 u m xs := fun {u m xs} h ha w' hs => owned_same h fun k hk => hs.same k (owned_lt h hk).2 fun e => by
        rcases ha with ha | ha
        · rw [ha] at hk; cases hk
        · exact ha (hk.trans e.symm)
      have HRS := Lib.hid (fun w' (hC : Spares (fun k => (Value.slice LG ng cg).ownBlock = some k) W w') => Sl.owned (stays ho hgv.symm w' hC))
      have HAS := Lib.hid (fun w' (hC : Spares (fun k => (Value.slice LG ng cg).ownBlock = some k) W w') => Sl.owned (stays hall hag w' hC))
      have HCUT := Lib.hid (fun w' (hC : Spares (fun k => (Value.slice LG ng cg).ownBlock = some k) W w') => show CutHas w' w0.heap.size w0.heap.size P na (.slice none 0 0) [] from ⟨(hC.same _ hcut.cells.lt fun e => owned_type hgot hcut.cells (by decide) e).trans hcut.cells, World.ownsRow_nil _ _ _ _, hcut.short⟩)
      have HBARE := Lib.hid hbare
      have HTM := Lib.hid (show G.map byteV ++ L.map byteV = T.map byteV by rw [← List.map_append, HEQ.out.2.2.1])
      have HLN := Lib.hid (show ng + lx ≤ 20000 by omega)
      have hBW : w0.heap.size ≤ W.heap.size := Nat.le_trans hbase hsp.size
      have HBW := Lib.hid hBW
      have HQ : Hid (((na : Nat) : Int) / (P : Int) = (Q : Int) ∧ ¬ P = 0 ∧ IntKind.i64.wrap (Q : Int) = (Q : Int) ∧ wrap64 (Q : Int) = (Q : Int)) := Lib.hid ⟨by rw [← div_of HEQ.out.2.2.2 hng hlp, Int.natCast_ediv], by have := HPB.out; omega, fit_one Q (Nat.le_trans (mul_le_of HEQ.out.2.2.2 HPB.out.1 (by omega)) (by omega))⟩
      have HGOT := Lib.hid hgot
      have HBF := Lib.hid (Below.trans HB.out (hsp.below hbase (fun k hk e => by omega)))
      obtain ⟨i0, hi0, hz0, hz1, hz2⟩ := info_parts infoU8
      have HI := Lib.hid (And.intro hi0 (And.intro hz0 (And.intro hz1 hz2)))
      have hlpI : (lx : Int) < (P : Int) := by omega
      have HLP := Lib.hid hlp
      clear ho hcut hsp keep hall hgot hgv hag hng stays hbare hbase hBW hi0 hz0 hz1 hz2
      rw [hlx]
      clear hlx
      go_wp2_with (fail)
      refine wp_region_jobs (G := Grows) (E := Spares (fun k => (Value.slice LG ng cg).ownBlock = some k)) 31 [valJob (fun k => (Value.slice LG ng cg).ownBlock = some k) (.bool true), valJob (fun k => (Value.slice LG ng cg).ownBlock = some k) (.bool true), valJob (fun k => (Value.slice LG ng cg).ownBlock = some k) (.slice X1 lx dx), valJob (fun k => (Value.slice LG ng cg).ownBlock = some k) (.int .i64 (lx : Nat)), valJob (fun k => (Value.slice LG ng cg).ownBlock = some k) (.int .i64 (P : Nat)), valJob (fun k => (Value.slice LG ng cg).ownBlock = some k) (.bool true), valJob (fun k => (Value.slice LG ng cg).ownBlock = some k) (.bool true), valJob (fun k => (Value.slice LG ng cg).ownBlock = some k) (.bool true), valJob (fun k => (Value.slice LG ng cg).ownBlock = some k) (.slice LG ng cg), valJob (fun k => (Value.slice LG ng cg).ownBlock = some k) (.slice X1 lx dx), appJob (fun k => (Value.slice LG ng cg).ownBlock = some k) w0.heap.size 5 (.slice LG ng cg) W.heap.size (ng + lx) (T.map byteV), rdJob (fun k => (Value.slice LG ng cg).ownBlock = some k) (.string ⟨T.toArray⟩), valJob (fun k => (Value.slice LG ng cg).ownBlock = some k) (.slice LA na ca), valJob (fun k => (Value.slice LG ng cg).ownBlock = some k) (.string ⟨T.toArray⟩), valJob (fun k => (Value.slice LG ng cg).ownBlock = some k) (.bool true), valJob (fun k => (Value.slice LG ng cg).ownBlock = some k) (.bool true), valJob (fun k => (Value.slice LG ng cg).ownBlock = some k) (.bool true), valJob (fun k => (Value.slice LG ng cg).ownBlock = some k) (.int .i64 (Q : Nat)), valJob (fun k => (Value.slice LG ng cg).ownBlock = some k) (.slice LA na ca), valJob (fun k => (Value.slice LG ng cg).ownBlock = some k) (.int .i64 (na : Nat)), valJob (fun k => (Value.slice LG ng cg).ownBlock = some k) (.int .i64 (P : Nat)), valJob (fun k => (Value.slice LG ng cg).ownBlock = some k) (.int .i64 (Q : Nat)), valJob (fun k => (Value.slice LG ng cg).ownBlock = some k) (.bool true), valJob (fun k => (Value.slice LG ng cg).ownBlock = some k) (.bool true), valJob (fun k => (Value.slice LG ng cg).ownBlock = some k) (.bool true), valJob (fun k => (Value.slice LG ng cg).ownBlock = some k) (.pointer (some ⟨w0.heap.size, 0, none⟩)), valJob (fun k => (Value.slice LG ng cg).ownBlock = some k) (.int .i64 (na : Nat)), valJob (fun k => (Value.slice LG ng cg).ownBlock = some k) (.slice LA na ca), valJob (fun k => (Value.slice LG ng cg).ownBlock = some k) (.int .i64 (na : Nat)), valJob (fun k => (Value.slice LG ng cg).ownBlock = some k) (.bool true), valJob (fun k => (Value.slice LG ng cg).ownBlock = some k) (.bool true)] [(false, false), (false, false), (false, false), (false, false), (false, false), (false, false), (false, false), (false, false), (false, false), (false, false), (true, true), (true, false), (false, false), (false, false), (false, false), (false, false), (false, false), (false, false), (false, false), (false, false), (false, false), (false, false), (false, false), (false, false), (false, false), (false, false), (false, false), (false, false), (false, false), (false, false), (false, false)] (fun w => w.ownsRow w0.heap.size 5 1 (.slice LG ng cg) ng (G.map byteV)) rfl mixed (by kernel_rfl) (fun _ _ => Spares.grows) (fun _ _ _ => Spares.trans) (spares_drew _ _) (owned_same HGOT.out fun _ _ => rfl) (fun _ _ h g => owned_grow h g) ?_
      simp only [List.take_succ_cons, List.take_zero, List.drop_succ_cons, List.drop_zero]
      refine j_val (.bool true) (by rfl) ?_ ?_
      · intro w' hC; clear hC; go_simp
      simp only [Act.put, List.setIfInBounds_toArray, List.set_cons_zero, List.set_cons_succ]
      refine j_val (.bool true) (by rfl) ?_ ?_
      · intro w' hC; clear hC; go_simp
      simp only [Act.put, List.setIfInBounds_toArray, List.set_cons_zero, List.set_cons_succ]
      refine j_val (.slice X1 lx dx) (by rfl) ?_ ?_
      · intro w' hC; clear hC; go_simp
      simp only [Act.put, List.setIfInBounds_toArray, List.set_cons_zero, List.set_cons_succ]
      refine j_val (.int .i64 (lx : Nat)) (by rfl) ?_ ?_
      · intro w' hC; clear hC; go_simp
      simp only [Act.put, List.setIfInBounds_toArray, List.set_cons_zero, List.set_cons_succ]
      refine j_val (.int .i64 (P : Nat)) (by rfl) ?_ ?_
      · intro w' hC; clear hC; go_simp
      simp only [Act.put, List.setIfInBounds_toArray, List.set_cons_zero, List.set_cons_succ]
      refine j_val (.bool true) (by rfl) ?_ ?_
      · intro w' hC; clear hC; go_simp
      simp only [Act.put, List.setIfInBounds_toArray, List.set_cons_zero, List.set_cons_succ]
      refine j_val (.bool true) (by rfl) ?_ ?_
      · intro w' hC; clear hC; go_simp
      simp only [Act.put, List.setIfInBounds_toArray, List.set_cons_zero, List.set_cons_succ]
      refine j_val (.bool true) (by rfl) ?_ ?_
      · intro w' hC; clear hC; go_simp
      simp only [Act.put, List.setIfInBounds_toArray, List.set_cons_zero, List.set_cons_succ]
      refine j_val (.slice LG ng cg) (by rfl) ?_ ?_
      · intro w' hC; clear hC; go_simp
      simp only [Act.put, List.setIfInBounds_toArray, List.set_cons_zero, List.set_cons_succ]
      refine j_val (.slice X1 lx dx) (by rfl) ?_ ?_
      · intro w' hC; clear hC; go_simp
      simp only [Act.put, List.setIfInBounds_toArray, List.set_cons_zero, List.set_cons_succ]
      refine j_append (by rfl) (.tmp 97) (.tmp 98) 23 rfl (B := W.heap.size) Try.underlying23 HI.out.1 HI.out.2.1 HI.out.2.2.1 HI.out.2.2.2 rfl rfl (.slice LG ng cg) (fun w' h => ⟨h, .inl rfl⟩) (Nat.le_refl _) (fun _ h => h) (fun _ _ _ h _ => h) rfl (fun w' hC _ => ⟨_, (HRS.out w' hC).bytes⟩) HBARE.out (byteV_one _) (ng + lx) rfl (T.map byteV) HTM.out (by unfold maxLen; have := HLN.out; omega) (by have := HLN.out; omega) HBW.out (fun _ _ _ _ h _ => h) ?_
      intro LZ cz
      simp only [Act.put, List.setIfInBounds_toArray, List.set_cons_zero, List.set_cons_succ]
      refine j_read (.string ⟨T.toArray⟩) (by rfl) ?_ ?_
      · intro w' hC hcls; have hs := run_string (Sl.owned hcls.1); clear hC hcls; go_simp
      simp only [Act.put, List.setIfInBounds_toArray, List.set_cons_zero, List.set_cons_succ]
      refine j_val (.slice LA na ca) (by rfl) ?_ ?_
      · intro w' hC; clear hC; go_simp
      simp only [Act.put, List.setIfInBounds_toArray, List.set_cons_zero, List.set_cons_succ]
      refine j_val (.string ⟨T.toArray⟩) (by rfl) ?_ ?_
      · intro w' hC; have hs := run_string (HAS.out w' hC); clear hC; go_simp
      simp only [Act.put, List.setIfInBounds_toArray, List.set_cons_zero, List.set_cons_succ]
      refine j_val (.bool true) (by rfl) ?_ ?_
      · intro w' hC; clear hC; go_simp
      simp only [Act.put, List.setIfInBounds_toArray, List.set_cons_zero, List.set_cons_succ]
      refine j_val (.bool true) (by rfl) ?_ ?_
      · intro w' hC; clear hC; go_simp
      simp only [Act.put, List.setIfInBounds_toArray, List.set_cons_zero, List.set_cons_succ]
      refine j_val (.bool true) (by rfl) ?_ ?_
      · intro w' hC; clear hC; go_simp
      simp only [Act.put, List.setIfInBounds_toArray, List.set_cons_zero, List.set_cons_succ]
      refine j_val (.int .i64 (Q : Nat)) (by rfl) ?_ ?_
      · intro w' hC; clear hC; go_simp
      simp only [Act.put, List.setIfInBounds_toArray, List.set_cons_zero, List.set_cons_succ]
      refine j_val (.slice LA na ca) (by rfl) ?_ ?_
      · intro w' hC; clear hC; go_simp
      simp only [Act.put, List.setIfInBounds_toArray, List.set_cons_zero, List.set_cons_succ]
      refine j_val (.int .i64 (na : Nat)) (by rfl) ?_ ?_
      · intro w' hC; clear hC; go_simp
      simp only [Act.put, List.setIfInBounds_toArray, List.set_cons_zero, List.set_cons_succ]
      refine j_val (.int .i64 (P : Nat)) (by rfl) ?_ ?_
      · intro w' hC; clear hC; go_simp
      simp only [Act.put, List.setIfInBounds_toArray, List.set_cons_zero, List.set_cons_succ]
      refine j_val (.int .i64 (Q : Nat)) (by rfl) ?_ ?_
      · intro w' hC; have hq := HQ.out.1; have hp := HQ.out.2.1; obtain ⟨kw1, kw2⟩ := HQ.out.2.2; clear hC; go_simp
      simp only [Act.put, List.setIfInBounds_toArray, List.set_cons_zero, List.set_cons_succ]
      refine j_val (.bool true) (by rfl) ?_ ?_
      · intro w' hC; clear hC; go_simp
      simp only [Act.put, List.setIfInBounds_toArray, List.set_cons_zero, List.set_cons_succ]
      refine j_val (.bool true) (by rfl) ?_ ?_
      · intro w' hC; clear hC; go_simp
      simp only [Act.put, List.setIfInBounds_toArray, List.set_cons_zero, List.set_cons_succ]
      refine j_val (.bool true) (by rfl) ?_ ?_
      · intro w' hC; clear hC; go_simp
      simp only [Act.put, List.setIfInBounds_toArray, List.set_cons_zero, List.set_cons_succ]
      refine j_val (.pointer (some ⟨w0.heap.size, 0, none⟩)) (by rfl) ?_ ?_
      · intro w' hC; clear hC; go_simp
      simp only [Act.put, List.setIfInBounds_toArray, List.set_cons_zero, List.set_cons_succ]
      refine j_call 38 #[.pointer (some ⟨w0.heap.size, 0, none⟩)] (.int .i64 (na : Nat)) (by rfl) (by intro w' hC; clear hC; go_simp) ?_ ?_
      · intro w' hC hk; exact (size_cut w' (HCUT.out w' hC)).mono fun e w'' ⟨he, hw⟩ => ⟨he, hw ▸ Grows.refl _⟩
      simp only [Act.put, List.setIfInBounds_toArray, List.set_cons_zero, List.set_cons_succ]
      refine j_val (.slice LA na ca) (by rfl) ?_ ?_
      · intro w' hC; clear hC; go_simp
      simp only [Act.put, List.setIfInBounds_toArray, List.set_cons_zero, List.set_cons_succ]
      refine j_val (.int .i64 (na : Nat)) (by rfl) ?_ ?_
      · intro w' hC; clear hC; go_simp
      simp only [Act.put, List.setIfInBounds_toArray, List.set_cons_zero, List.set_cons_succ]
      refine j_val (.bool true) (by rfl) ?_ ?_
      · intro w' hC; clear hC; go_simp
      simp only [Act.put, List.setIfInBounds_toArray, List.set_cons_zero, List.set_cons_succ]
      refine j_val (.bool true) (by rfl) ?_ ?_
      · intro w' hC; clear hC; go_simp
      simp only [Act.put, List.setIfInBounds_toArray, List.set_cons_zero, List.set_cons_succ]
      refine wpJ_end ?_
      intro w9 hC hks hcls
      have HCw9 := Lib.hid hC
      have HLw9 := Lib.hid hcls
      clear hC hks hcls
      go_wp2_with (fail)
      go_ret
      exact ⟨rfl, Grows.trans HG0.out (Below.trans HBF.out (HCw9.out.below HBW.out fun k hk e => by have := (owned_lt HGOT.out e).1; omega))⟩

set_option maxRecDepth 100000 in
theorem cutAll_lifted (os : Os) (started : os.Started) (H : Type) (enc : TypeId × Value → H) :
    ReturnsInHanded {} Try.checked os 6 .any (Rows.cutAllSpec.pre6 enc Try.prog Try.f6 Rows.cutAllRow.domain false) (Rows.cutAllSpec.post enc Try.prog Try.f6 false true false false) := by
  refine lift_law (C := Try.checked) H enc own started (by kernel_rfl) Try.func6
    (ChangeSpec.witness6 (enc := enc) (C := Try.checked) false ⟨#[], #[.int .u16 0, .slice none 0 0], []⟩ 16 (by kernel_rfl) (by kernel_rfl) (by kernel_rfl) (by kernel_rfl))
    laidOut (of_readable (by kernel_rfl)) rfl Try.underlying4 rfl (fun ds hd => ?_) (fun W base args ds p hval hA hsz => ?_)
  · match ds, hd with
    | [d1, d2], _ => rfl
  · rw [Try.params6] at hA hval hsz
    obtain ⟨v0, vs0, d0, ds0, p0, q0, hargs, rfl, rfl, h0, r0⟩ := trodAll_cons hA
    obtain ⟨v1, vs1, d1, ds1, p1, q1, rfl, rfl, rfl, h1, r1⟩ := trodAll_cons r0
    obtain ⟨rfl, rfl, rfl⟩ := trodAll_nil r1
    obtain rfl : args = #[v0, v1] := by cases args; simp_all
    obtain ⟨a0, rfl, _, _, w0⟩ := open_int Try.underlying56 (hval 0 56 v0 rfl rfl) h0
    have b0 := bounds_u16 w0
    obtain ⟨A1, n1, c1, xs1, rfl, hx1, hc1, hb1⟩ := open_rows2 Try.underlying51 Try.underlying23 Try.underlying5 (by kernel_rfl) (by kernel_rfl) (by kernel_rfl) (by kernel_rfl) (hval 1 51 v1 rfl rfl) h1 hsz (j := 1) rfl rfl
    exact cutAll_law W a0 (by omega) A1 n1 c1 xs1 hx1 hc1 hb1

theorem cutAll_over : Rows.cutAllRow.holds Try.pinned (OpenSpec.ofChange Rows.cutAllSpec) :=
  OpenClaim.holds_of_wide 6 Try.f6 rfl rfl rfl rfl rfl rfl rfl ⟨rfl, rfl, rfl, rfl, rfl⟩ rfl rfl rfl rfl rfl (by kernel_rfl) Try.func6 (by kernel_rfl)
    (of_decide_eq_true (by kernel_rfl)) (by unfold Func.isWrapper; first | (rw [if_pos (by decide +kernel)]; kernel_rfl) | (rw [if_neg (by decide +kernel)]; exact ⟨rfl, rfl⟩))
    (fun os started H enc _ => cutAll_lifted os started H enc)
theorem cutAll_holds : Rows.CutAllSaid := cutAll_over
end Go.Proofs.Ytlcpbkbojjpfaaa
