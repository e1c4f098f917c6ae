import Derived.Test.YtlldcogkcjnejaaGreatSgBoth
import Derived.Test.YtlldcogkcjnejaaGreatMG29
import Derived.Test.YtlldcogkcjnejaaGreatSgGreat
import Derived.Test.YtlldcogkcjnejaaGreatMG13
import Derived.ProofKit
import Derived.ChangeOld
set_option linter.unusedVariables false
namespace Go.Proofs.YtlldcogkcjnejaaGreat
open Go.Lib (hid)
open Go.ChangeShapes Go.WideShapes Go.ChangeAt Go.RowKit
theorem Zom {w wr : World} {a : Addr} {o : O9} {p : P9} (hb : a.block < w.heap.size) (hc : ∀ k, k < 12 → w.cell? (a.add k) = (o9V o p)[k]?) (hg : Grows w wr) :
 wr.cell? a = some (.int .i64 o.what) ∧ wr.cell? { block := a.block, off := a.off + 1 } = some (.int .i64 o.n) ∧ wr.cell? { block := a.block, off := a.off + 2 } = some (.int .i64 o.x.kind) ∧ wr.cell? { block := a.block, off := a.off + 3 } = some (.string ⟨o.x.key.toArray⟩) ∧ wr.cell? { block := a.block, off := a.off + 4 } = some (.int .i64 o.x.id) ∧ wr.cell? { block := a.block, off := a.off + 5 } = some (.int .i64 o.x.no) ∧ wr.cell? { block := a.block, off := a.off + 6 } = some (.int .i64 o.x.size) ∧ wr.cell? { block := a.block, off := a.off + 7 } = some (.slice p.LA p.ln p.lc) ∧ wr.cell? { block := a.block, off := a.off + 8 } = some (.slice p.BA p.bn p.bc) ∧ wr.cell? { block := a.block, off := a.off + 9 } = some (.int .i64 o.at') ∧ wr.cell? { block := a.block, off := a.off + 10 } = some (.slice p.IA p.im p.ic) ∧ wr.cell? { block := a.block, off := a.off + 11 } = some (.int .u32 o.bits) := by
 have key : ∀ k, k < 12 → wr.cell? (a.add k) = (o9V o p)[k]? := fun k hk => (hg.cell (by rw [Z4]; exact hb)).trans (hc k hk)
 have h0 := key 0 (by omega)
 rw [show a.add 0 = a by unfold Addr.add; simp] at h0
 have h1 := key 1 (by omega)
 have h2 := key 2 (by omega)
 have h3 := key 3 (by omega)
 have h4 := key 4 (by omega)
 have h5 := key 5 (by omega)
 have h6 := key 6 (by omega)
 have h7 := key 7 (by omega)
 have h8 := key 8 (by omega)
 have h9 := key 9 (by omega)
 have h10 := key 10 (by omega)
 have h11 := key 11 (by omega)
 rw [Zdz] at h1 h2 h3 h4 h5 h6 h7 h8 h9 h10 h11
 exact ⟨h0, h1, h2, h3, h4, h5, h6, h7, h8, h9, h10, h11⟩
set_option maxHeartbeats 16000000 in
set_option maxRecDepth 100000 in
theorem Zgo (w : World) (most : Int) (hmost : -9223372036854775808 ≤ most ∧ most ≤ 9223372036854775807) (A0 : Option Addr) (n0 c0 : Nat) (os : List O9) (ho : Ops9 w A0 n0 c0 os) :
 Calls Tryz.prog 3 #[.int .i64 most, .slice A0 n0 c0] w fun e w' => e = .returned (.bool true) ∧ Below w.heap.size w w' := by
 have HO := hid ho
 have hn0 := ho.top
 clear ho
 go_enter Tryz.func3, Tryz.ntmps3
 go_wp2_with (fail)
 refine (Znk w).mono ?_
 rintro e w0 ⟨rfl, hb0⟩
 have HB0 := hid hb0
 clear hb0
 go_wp2_with (fail)
 refine (Zmg w0 most).mono ?_
 rintro e w1 ⟨d, rfl, hn⟩
 have HN := hid hn
 clear hn
 go_wp2_with (fail)
 refine (Zoo w1 most).mono ?_
 rintro e w2 ⟨rfl, hrf, hg2⟩
 have ht := Two.new HN.out HB0.out.size HB0.out hrf hg2
 generalize w1.heap.size = r at ht
 have HT := hid ht
 have hg8 := Zlj A0 n0 c0 os w2 (HO.out.grow HT.out.low)
 have HG8 := hid hg8
 clear hg8 HN hrf hg2 ht
 go_wp2_with (fail)
 refine HG8.out.mono ?_
 rintro e w3 (⟨rfl, hg⟩ | ⟨rfl, hn100, hall, hg⟩)
 ·have HZ := hid (HT.out.grow hg)
  clear hg
  go_wp2_with (fail)
  go_ret
  exact ⟨rfl, HZ.out.low⟩
 have HT1 := hid (HT.out.grow hg)
 have HALL := hid (And.intro hn100 hall)
 clear hg HT hall
 go_wp2_with (fail)
 go_loopw [8] (fun vi wr => ∃ (j : Nat) (m : Dk) (x : Rf), j ≤ n0 ∧ vi = .int .i64 (j : Nat) ∧ Hid (Two w.heap.size w wr d r (fun _ => False) m x) ∧ Hid (G2 (40 * j + o9all (os.take j)) m x)) (fun i _ => n0 - (intOf i).toNat)
 case atStart => exact ⟨0, Dk.new most, Rf.new most, Nat.zero_le _, rfl, HT1, hid ((G2.new most).mono (Nat.zero_le _))⟩
 case round =>
  obtain ⟨j, m, x, hj, rfl, HW, HG⟩ := hrel
  clear HT1
  by_cases hlt : j < n0
  ·have hlt' : (j : Int) < (n0 : Int) := by omega
   have hj0 : (0 : Int) ≤ (j : Int) := by omega
   obtain ⟨ad, o, p, rfl, hblk, hoi, hat, hcs⟩ := HO.out.spot j hlt
   have hbd : o9len o ≤ 20000 ∧ j ≤ 100 ∧ 40 * j + o9all (os.take j) + o9len o + 40 = 40 * (j + 1) + o9all (os.take (j + 1)) ∧ 40 * (j + 1) + o9all (os.take (j + 1)) ≤ 50000 := by
    have h1 := Zoi hoi
    have h2 := Zli os (j + 1)
    have h3 := HALL.out
    omega
   obtain ⟨K, hK⟩ : ∃ K, 40 * j + o9all (os.take j) = K := ⟨_, rfl⟩
   obtain ⟨K1, hK1⟩ : ∃ K1, 40 * (j + 1) + o9all (os.take (j + 1)) = K1 := ⟨_, rfl⟩
   rw [hK, hK1] at hbd
   rw [hK] at HG
   have HKE := hid hK1
   have HLT := hid hlt
   have hbo := fun w' (ht : Two w.heap.size w w' d r (fun _ => False) m x) => Zll w' ht HG.out (by omega) o p hat hbd.1
   obtain ⟨m1, hm1⟩ : ∃ q, o9on o m = q := ⟨_, rfl⟩
   rw [hm1, hbd.2.2.1] at hbo
   have HK1 := hid (show K1 ≤ 100000 by omega)
   have hcl := fun w' (hC : Zc (fun k => w.heap.size ≤ k ∧ ¬ (fun (_ : Nat) => False) k) wr w') => Zom (o := o) (p := p) (by rw [Z4]; exact hblk) hcs (Below.trans HW.out.low (hC.below HW.out.size fun k hk e => by have := e.1; omega))
   obtain ⟨what, nn, y, aa, bytes, bits⟩ := o
   obtain ⟨LA, ln, lc, BA, bn, bc, IA, im, ic⟩ := p
   dsimp only at hcl
   have HCL := hid hcl
   have HBO := hid (show ∀ w', Two w.heap.size w w' d r (fun _ => False) m x → Calls Tryz.prog 8 #[.pointer (some ⟨d, 0, none⟩), .pointer (some ⟨r, 0, none⟩), .agg #[.int .i64 what, .int .i64 nn, .int .i64 y.kind, .string ⟨y.key.toArray⟩, .int .i64 y.id, .int .i64 y.no, .int .i64 y.size, .slice LA ln lc, .slice BA bn bc, .int .i64 aa, .slice IA im ic, .int .u32 bits]] w' fun e w'' => e = .returned (.bool true) ∧ (∃ x', Two w.heap.size w w'' d r (fun _ => False) m1 x' ∧ G2 K1 m1 x') ∧ Stays w.heap.size (fun _ => False) w' w'' from hbo)
   obtain ⟨⟨sv, sb⟩, hsv⟩ : ∃ q, m1.size (nmS nn) = q := ⟨_, rfl⟩
   obtain ⟨us, hus⟩ : ∃ us, m1.used = us := ⟨_, rfl⟩
   obtain ⟨dd, hdd⟩ : ∃ dd, m1.done = dd := ⟨_, rfl⟩
   have HSV := hid hsv
   have HUS := hid hus
   have HDD := hid hdd
   clear hblk hoi hat hcs hbd hK hK1 hbo hcl hm1 hsv hus hdd
   go_wp2_with (fail)
   refine Yh (G := Grows) (E := Zc (fun k => w.heap.size ≤ k ∧ ¬ (fun (_ : Nat) => False) k)) 38 [Zl _ (.pointer (some ⟨d, 0, none⟩)), Zl _ (.pointer (some ⟨r, 0, none⟩)), Zl _ (.slice (some ad) n0 c0), Zl _ (.int .i64 (j : Nat)), Zl _ (.pointer (some (ad.add (j * 12)))), Zl _ (.agg #[.int .i64 what, .int .i64 nn, .int .i64 y.kind, .string ⟨y.key.toArray⟩, .int .i64 y.id, .int .i64 y.no, .int .i64 y.size, .slice LA ln lc, .slice BA bn bc, .int .i64 aa, .slice IA im ic, .int .u32 bits]), wrJob _ (.bool true) (fun w' => ∃ x', Two w.heap.size w w' d r (fun _ => False) m1 x' ∧ G2 K1 m1 x') (fun _ _ ⟨q, h, g⟩ hg => ⟨q, h.grow hg, g⟩), Zl _ (.bool false), Zl _ (.bool false), Zl _ (.pointer (some ⟨d, 0, none⟩)), Zl _ (.slice (some ad) n0 c0), Zl _ (.int .i64 (j : Nat)), Zl _ (.pointer (some (ad.add (j * 12)))), Zl _ (.pointer (some ⟨(ad.add (j * 12)).block, (ad.add (j * 12)).off + 1, none⟩)), Zl _ (.int .i64 nn), rdJob _ (.int .i64 sv), Zl _ (.pointer (some ⟨r, 0, none⟩)), Zl _ (.slice (some ad) n0 c0), Zl _ (.int .i64 (j : Nat)), Zl _ (.pointer (some (ad.add (j * 12)))), Zl _ (.pointer (some ⟨(ad.add (j * 12)).block, (ad.add (j * 12)).off + 1, none⟩)), Zl _ (.int .i64 nn), rdJob _ (.int .i64 sv), Zl _ (.bool false), Zl _ (.bool false), Zl _ (.bool false), Zl _ (.pointer (some ⟨d, 0, none⟩)), rdJob _ (.int .i64 us), Zl _ (.pointer (some ⟨r, 0, none⟩)), rdJob _ (.int .i64 us), Zl _ (.bool false), Zl _ (.bool false), Zl _ (.bool false), Zl _ (.pointer (some ⟨d, 0, none⟩)), rdJob _ (.int .i64 dd), Zl _ (.pointer (some ⟨r, 0, none⟩)), rdJob _ (.int .i64 dd), Zl _ (.bool false)] [(false, false), (false, false), (false, false), (false, false), (false, false), (false, false), (true, true), (false, false), (false, false), (false, false), (false, false), (false, false), (false, false), (false, false), (false, false), (true, false), (false, false), (false, false), (false, false), (false, false), (false, false), (false, false), (true, false), (false, false), (false, false), (false, false), (false, false), (true, false), (false, false), (true, false), (false, false), (false, false), (false, false), (false, false), (true, false), (false, false), (true, false), (false, false)] (fun w' => Two w.heap.size w w' d r (fun _ => False) m x) rfl mixed (by kernel_rfl) (fun _ _ => Zc.grows) (fun _ _ _ => Zc.trans) (Jd _ _) (HW.out.grow (Ze _)) (fun _ _ h hg => h.grow hg) ?_
   simp only [List.take_succ_cons, List.take_zero, List.drop_succ_cons, List.drop_zero]
   iterate 5
    refine j_val _ (by rfl) ?_ ?_
    ·intro w' hC; clear hC; go_simp
    simp only [Pu]
   refine j_val _ (by rfl) ?_ ?_
   ·intro w' hC; obtain ⟨z0, z1, z2, z3, z4, z5, z6, z7, z8, z9, z10, z11⟩ := HCL.out w' hC; clear hC; go_simp
   simp only [Pu]
   refine Zij 8 #[.pointer (some ⟨d, 0, none⟩), .pointer (some ⟨r, 0, none⟩), .agg #[.int .i64 what, .int .i64 nn, .int .i64 y.kind, .string ⟨y.key.toArray⟩, .int .i64 y.id, .int .i64 y.no, .int .i64 y.size, .slice LA ln lc, .slice BA bn bc, .int .i64 aa, .slice IA im ic, .int .u32 bits]] (.bool true) (by rfl) (by intro w' hC; clear hC; go_simp) ?_ ?_
   ·intro w' hC hcls; exact (HBO.out w' hcls).mono fun e w'' hh => ⟨hh.1, hh.2.2, hh.2.1⟩
   simp only [Pu]
   iterate 7
    refine j_val _ (by rfl) ?_ ?_
    ·intro w' hC; clear hC; go_simp
    simp only [Pu]
   refine j_val _ (by rfl) ?_ ?_
   ·intro w' hC; obtain ⟨z0, z1, z2, z3, z4, z5, z6, z7, z8, z9, z10, z11⟩ := HCL.out w' hC; clear hC; go_simp
   simp only [Pu]
   refine Zcu 9 #[.pointer (some ⟨d, 0, none⟩), .int .i64 nn] (.int .i64 sv) (by rfl) (by intro w' hC; clear hC; go_simp) ?_ ?_
   ·intro w' hC ⟨q, ht, hg⟩; obtain ⟨od, hdk⟩ := ht.dk; exact Zcj w' nn hdk HSV.out
   simp only [Pu]
   iterate 5
    refine j_val _ (by rfl) ?_ ?_
    ·intro w' hC; clear hC; go_simp
    simp only [Pu]
   refine j_val _ (by rfl) ?_ ?_
   ·intro w' hC; obtain ⟨z0, z1, z2, z3, z4, z5, z6, z7, z8, z9, z10, z11⟩ := HCL.out w' hC; clear hC; go_simp
   simp only [Pu]
   refine Zcu 10 #[.pointer (some ⟨r, 0, none⟩), .int .i64 nn] (.int .i64 sv) (by rfl) (by intro w' hC; clear hC; go_simp) ?_ ?_
   ·intro w' hC ⟨q, ht, hg⟩; have hs := Zco ht hg HK1.out nn; rw [HSV.out] at hs; exact hs
   simp only [Pu]
   iterate 4
    refine j_val _ (by rfl) ?_ ?_
    ·intro w' hC; clear hC; go_simp
    simp only [Pu]
   refine Zcu 11 #[.pointer (some ⟨d, 0, none⟩)] (.int .i64 us) (by rfl) (by intro w' hC; clear hC; go_simp) ?_ ?_
   ·intro w' hC ⟨q, ht, hg⟩; have hs := ht.used; rw [HUS.out] at hs; exact hs.mono fun e w'' hh => ⟨hh.1, hh.2 ▸ Grows.refl _⟩
   simp only [Pu]
   refine j_val _ (by rfl) ?_ ?_
   ·intro w' hC; clear hC; go_simp
   simp only [Pu]
   refine Zcu 12 #[.pointer (some ⟨r, 0, none⟩)] (.int .i64 us) (by rfl) (by intro w' hC; clear hC; go_simp) ?_ ?_
   ·intro w' hC ⟨q, ht, hg⟩; have hs := ht.usedR hg HK1.out; rw [HUS.out] at hs; exact hs
   simp only [Pu]
   iterate 4
    refine j_val _ (by rfl) ?_ ?_
    ·intro w' hC; clear hC; go_simp
    simp only [Pu]
   refine Zcu 13 #[.pointer (some ⟨d, 0, none⟩)] (.int .i64 dd) (by rfl) (by intro w' hC; clear hC; go_simp) ?_ ?_
   ·intro w' hC ⟨q, ht, hg⟩; have hs := ht.done; rw [HDD.out] at hs; exact hs.mono fun e w'' hh => ⟨hh.1, hh.2 ▸ Grows.refl _⟩
   simp only [Pu]
   refine j_val _ (by rfl) ?_ ?_
   ·intro w' hC; clear hC; go_simp
   simp only [Pu]
   refine Zcu 14 #[.pointer (some ⟨r, 0, none⟩)] (.int .i64 dd) (by rfl) (by intro w' hC; clear hC; go_simp) ?_ ?_
   ·intro w' hC ⟨q, ht, hg⟩; have hs := ht.doneR hg; rw [HDD.out] at hs; exact hs.mono fun e w'' hh => ⟨hh.1, hh.2 ▸ Grows.refl _⟩
   simp only [Pu]
   refine j_val _ (by rfl) ?_ ?_
   ·intro w' hC; clear hC; go_simp
   simp only [Pu]
   refine Zcv ?_
   intro w9 hC hks hcls
   have HCw9 := hid hC
   have HLw9 := hid hcls
   clear hC hks hcls
   obtain ⟨x1, ht9, hg9⟩ := HLw9.out
   have HT9 := hid ht9
   have HG9 := hid hg9
   clear ht9 hg9 HCL HBO
   rw [← HKE.out] at HG9
   go_wp2_with (fail)
   exact ⟨⟨j + 1, m1, x1, HLT.out, rfl, HT9, HG9⟩, Zjo HLT.out⟩
  ·obtain rfl : j = n0 := by omega
   go_wp2_with (fail)
   go_ret
   exact ⟨rfl, HW.out.low⟩

set_option maxRecDepth 100000 in
theorem segPlays_lifted (os : Os) (started : os.Started) (H : Type) (enc : TypeId × Value → H) :
 ReturnsInHanded {} Tryz.checked os 3 .any (Rows.segPlaysSpec.pre6 enc Tryz.prog Tryz.f3 Rows.segPlaysRow.domain false) (Rows.segPlaysSpec.post enc Tryz.prog Tryz.f3 false true false false) := by
 refine Zo9 (C := Tryz.checked) H enc own started (by kernel_rfl) Tryz.func3
  (ChangeSpec.witness6 (enc := enc) (C := Tryz.checked) false ⟨#[], #[.int .i64 0, .slice none 0 0], []⟩ 16 (by kernel_rfl) (by kernel_rfl) (by kernel_rfl) (by kernel_rfl))
  laidOut (Zik (by kernel_rfl)) rfl Tryz.underlying4 rfl (fun ds hd => ?_) (fun W base args ds p hval hA hsz => ?_)
 ·match ds, hd with
  | [d1, d2], _ => rfl
 ·rw [Tryz.params3] at hA hval hsz
  obtain ⟨v0, vs0, d0, ds0, p0, q0, hargs, rfl, rfl, h0, r0⟩ := trodAll_cons hA
  obtain ⟨v1, vs1, d1, ds1, p1, q1, rfl, rfl, rfl, h1, r1⟩ := trodAll_cons r0
  obtain ⟨rfl, rfl, rfl⟩ := trodAll_nil r1
  obtain rfl : args = #[v0, v1] := by cases args; simp_all
  obtain ⟨a0, rfl, _, _, w0⟩ := open_int Tryz.underlying3 (hval 0 3 v0 rfl rfl) h0
  have b0 := bounds_i64 w0
  obtain ⟨A1, n1, c1, xs1, rfl, hx1⟩ := Zoj (hval 1 22 v1 rfl rfl) h1 hsz (j := 1) rfl rfl
  exact Zgo W a0 (by omega) A1 n1 c1 xs1 hx1

theorem segPlays_over : Rows.segPlaysRow.holds Tryz.pinned (OpenSpec.ofChange Rows.segPlaysSpec) :=
 OpenClaim.holds_of_wide 3 Tryz.f3 rfl rfl rfl rfl rfl rfl rfl ⟨rfl, rfl, rfl, rfl, rfl⟩ rfl rfl rfl rfl rfl (by kernel_rfl) Tryz.func3 (by kernel_rfl)
  (of_decide_eq_true (by kernel_rfl)) (by unfold Func.isWrapper; first | (rw [if_pos (by decide +kernel)]; kernel_rfl) | (rw [if_neg (by decide +kernel)]; exact ⟨rfl, rfl⟩))
  (fun os started H enc _ => segPlays_lifted os started H enc)
theorem segPlays_holds : Rows.SegPlaysSaid := segPlays_over
end Go.Proofs.YtlldcogkcjnejaaGreat