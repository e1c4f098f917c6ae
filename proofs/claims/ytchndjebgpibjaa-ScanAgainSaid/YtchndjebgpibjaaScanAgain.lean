/-
  ScanAgain holds of any bytes: what is told of Next, from one end to the next, is what All tells; no condition.
-/
import Derived.Test.YtchndjebgpibjaaLawBits
import Derived.Test.YtchndjebgpibjaaCame
import Derived.IntWalk
namespace Go.Proofs.Ytchndjebgpibjaa
open Go.ChangeShapes Go.WideShapes Go.ChangeAt Go.RowKit

/-- Where something is found, Next finds it. -/
theorem again_next {bs : List UInt8} {p k : Nat} {ts : List It} {en er : Nat} (hk : k < ts.length) (h1 : ts.drop k = (allB (bs.drop p) p).1) (h2 : (allB (bs.drop p) p).2.2 = (en, er)) :
    ∃ t q, ts[k]? = some t ∧ nextB (bs.drop p) p = (t, (nextB (bs.drop p) p).2.1, q, 0) ∧ p < q ∧ q ≤ p + (bs.drop p).length ∧ ts.drop (k + 1) = (allB (bs.drop q) q).1 ∧ (allB (bs.drop q) q).2.2 = (en, er) := by
  have hne : ts.drop k ≠ [] := fun h => by have := congrArg List.length h; rw [List.length_drop] at this; simp at this; omega
  rcases all_next (bs.drop p).length (bs.drop p) p (Nat.le_refl _) with ⟨_, h⟩ | ⟨_, a2, a3, a4, a5⟩
  · rw [h] at h1; exact absurd h1 hne
  · rw [a5] at h1 h2
    dsimp only at h1 h2
    generalize nextB (bs.drop p) p = r at *
    obtain ⟨t, b, q, e⟩ := r
    dsimp only at *
    rw [List.drop_drop, show p + (q - p) = q by omega] at h1 h2
    subst a2
    have hd : ts.drop k = ts[k] :: ts.drop (k + 1) := List.drop_eq_getElem_cons hk
    rw [hd] at h1
    injection h1 with h1 h3
    exact ⟨t, q, by rw [List.getElem?_eq_getElem hk, h1], rfl, by omega, a4, h3, h2⟩
theorem again_last {bs : List UInt8} {p : Nat} {en er : Nat} (h1 : [] = (allB (bs.drop p) p).1) (h2 : (allB (bs.drop p) p).2.2 = (en, er)) : (nextB (bs.drop p) p).2.2 = (en, er) := by
  rcases all_next (bs.drop p).length (bs.drop p) p (Nat.le_refl _) with ⟨_, h⟩ | ⟨_, _, _, _, a5⟩
  · rw [h] at h2; exact h2
  · rw [a5] at h1; cases h1

set_option maxRecDepth 100000 in
set_option maxHeartbeats 4000000 in
theorem again_law {w : World} (A : Option Addr) (n c : Nat) (bs : List UInt8) (hc : Came w A n c bs) :
    Calls Try.prog 8 #[.slice A n c] w fun e w' => e = .returned (.bool true) ∧ Below w.heap.size w w' := by
  have hreach := hc.reach
  have hcap := hc.cap
  have HC := Lib.hid hc.sl
  clear hc
  by_cases hn : 9000 < n
  · go_enter Try.func8, Try.ntmps8
    go_wp2_with (fail)
    refine (head3_any _).mono ?_
    rintro e w1 ⟨rfl, hb1⟩
    have HG1 := Lib.hid (show Grows w w1 from hb1)
    clear hb1
    go_wp2_with (fail)
    go_ret
    exact ⟨rfl, HG1.out⟩
  · go_enter Try.func8, Try.ntmps8
    go_wp2_with (fail)
    refine (head3_any _).mono ?_
    rintro e w1 ⟨rfl, hb1⟩
    have HG1 := Lib.hid (show Grows w w1 from hb1)
    clear hb1
    go_wp2_with (fail)
    have h1 := all_in A n c bs w1 (HC.out.grow HG1.out) (by omega)
    have hb := all_end bs.length bs 0 (Nat.le_refl _)
    have hbl := HC.out.len
    have h0 : (allB bs 0).1.drop 0 = (allB (bs.drop 0) 0).1 ∧ (allB (bs.drop 0) 0).2.2 = ((allB bs 0).2.2.1, (allB bs 0).2.2.2) := ⟨rfl, rfl⟩
    generalize allB bs 0 = r at h1 hb h0
    obtain ⟨ts, bad, en, er⟩ := r
    dsimp only at h1 hb h0
    have hts : ts.length ≤ 140737488351232 := by omega
    have H0 := Lib.hid h0
    refine h1.mono ?_
    clear h1 hb hbl h0
    rintro e w2 ⟨LA0, lc, hh2, rfl, ho2, hbd2, hb2⟩
    have g2 : Grows w1 w2 := hb2
    have HI2 := Lib.hid (items_own rfl ho2 hbd2)
    have HG2 := Lib.hid (Grows.trans HG1.out g2)
    clear ho2 hbd2 hb2 g2 HG1
    go_wp2_with (fail)
    go_loopw [8, 9] (fun a i wr => ∃ (p k : Nat), p ≤ n ∧ k ≤ ts.length ∧ a = .int .i64 (p : Nat) ∧ i = .int .i64 (k : Nat) ∧ Hid (ts.drop k = (allB (bs.drop p) p).1 ∧ (allB (bs.drop p) p).2.2 = (en, er)) ∧ Hid (Grows w2 wr)) (fun _ i _ => ts.length - (intOf i).toNat)
    case atStart => exact ⟨0, 0, by omega, by omega, rfl, rfl, H0, Lib.hid (Grows.refl _)⟩
    case round =>
      obtain ⟨p, k, hp, hk, rfl, rfl, HE, HGR⟩ := hrel
      have hnx := next_any A n c bs (p : Nat) wr (HC.out.grow (Grows.trans HG2.out HGR.out)) (by omega)
      have hni := nextI_in bs p (by have := HC.out.len; omega)
      by_cases hlt : k < ts.length
      · obtain ⟨LA, rfl⟩ : ∃ ad, LA0 = some ad := by
          obtain ⟨ad, _, _, _, h, _⟩ := HI2.out.spot hlt
          exact ⟨ad, h⟩
        obtain ⟨t, q, ht, hnb, hpq, hq, hd1, hd2⟩ := again_next hlt HE.out.1 HE.out.2
        rw [hnb] at hni
        have HD := Lib.hid (And.intro hd1 hd2)
        have HNI := Lib.hid hni
        have HT := Lib.hid ht
        have HNX := Lib.hid hnx
        have hqn : q ≤ n := by rw [List.length_drop] at hq; have := HC.out.len; omega
        have hlc := HI2.out.cap
        have hlc' : (ts.length : Int) ≤ (lc : Int) := by omega
        have k0 : (0 : Int) ≤ (k : Int) := by omega
        have k1 : (k : Int) < (ts.length : Int) := by omega
        clear hnb hni hd1 hd2 ht hnx hq
        go_wp2_with (fail)
        refine HNX.out.mono ?_
        rintro e w4 ⟨A4, m4, c4, x0, x1, e4, y4, n4, rfl, hs4, g4, he4⟩
        have hw4 := Whole.made w4 29 #[.int .i64 (x0 : Nat), .int .i64 (x1 : Nat), .slice A4 m4 c4]
        have k4 := grows_alloc w4 (.cells #[.int .i64 (x0 : Nat), .int .i64 (x1 : Nat), .slice A4 m4 c4] 29)
        have hqq := HNI.out.symm.trans he4
        simp only [Prod.mk.injEq] at hqq
        obtain ⟨rfl, rfl, rfl⟩ := hqq
        have HX := Lib.hid hw4
        have HS4 := Lib.hid (hs4.grow k4)
        have hone := (HI2.out.grow (Grows.trans HGR.out (Grows.trans g4 k4))).one hlt HT.out
        have HONE := Lib.hid hone
        have HG4 := Lib.hid (Grows.trans HGR.out (Grows.trans g4 k4))
        have KW : Hid (IntKind.i64.wrap ((k : Int) + 1) = (k : Int) + 1) := Lib.hid (IntWalk.i64_in _ (by omega))
        have hck : ¬ lc = k := by omega
        have hck1 : (k : Int) + 1 ≤ (lc : Int) := by omega
        have hck2 : (0 : Int) ≤ (k : Int) + 1 := by omega
        have hck3 : (k : Int) ≤ (k : Int) + 1 := by omega
        have HLE : Hid (decide ((q : Int) ≤ (p : Int)) = false) := Lib.hid (by simp; omega)
        clear hs4 g4 he4 hw4 k4 hone
        go_wp2_with (fail)
        refine wp_region_facts (E := Grows) [valFact (.int .i64 0), valFact (.bool false), valFact (.bool false), valFact (.agg #[.int .i64 (x0 : Nat), .int .i64 (x1 : Nat), .slice A4 m4 c4]), litFact 1 29 #[.int .i64 (x0 : Nat), .int .i64 (x1 : Nat), .slice A4 m4 c4], valFact (.slice (some LA) ts.length lc), valFact (.int .i64 (k : Int)), valFact (.int .i64 (k : Int)), valFact (.int .i64 ((k : Int) + 1)), valFact (.slice (some (LA.add (k * 3))) 1 (lc - k)), valFact (.bool true), valFact (.bool false), valFact (.bool false), valFact (.bool false), valFact (.int .i64 (q : Int)), valFact (.int .i64 (p : Int)), valFact (.bool false), valFact (.bool false)] (by kernel_rfl) (by kernel_rfl) (fun _ _ _ => Grows.trans) (grows_drew _) ?_
        refine f_val (.int .i64 0) (by rfl) ?_ ?_
        · intro w' hC; clear hC; go_simp
        simp only [Act.put, List.setIfInBounds_toArray, List.set_cons_zero, List.set_cons_succ]
        refine f_val (.bool false) (by rfl) ?_ ?_
        · intro w' hC; clear hC; go_simp
        simp only [Act.put, List.setIfInBounds_toArray, List.set_cons_zero, List.set_cons_succ]
        refine f_val (.bool false) (by rfl) ?_ ?_
        · intro w' hC; clear hC; go_simp
        simp only [Act.put, List.setIfInBounds_toArray, List.set_cons_zero, List.set_cons_succ]
        refine f_val (.agg #[.int .i64 (x0 : Nat), .int .i64 (x1 : Nat), .slice A4 m4 c4]) (by rfl) ?_ ?_
        · intro w' hC; have hx := hC.whole HX.out; have c0 := hx.cell 0; have c1 := hx.cell 1; have c2 := hx.cell 2; simp only [List.getElem?_toArray, List.getElem?_cons_zero, List.getElem?_cons_succ] at c0 c1 c2; clear hx; clear hC; go_simp
        simp only [Act.put, List.setIfInBounds_toArray, List.set_cons_zero, List.set_cons_succ]
        refine f_lit 1 29 #[.int .i64 (x0 : Nat), .int .i64 (x1 : Nat), .slice A4 m4 c4] (by rfl) (by intro w' hC; clear hC; go_simp) ?_
        intro g1
        simp only [Act.put, List.setIfInBounds_toArray, List.set_cons_zero, List.set_cons_succ]
        refine f_val (.slice (some LA) ts.length lc) (by rfl) ?_ ?_
        · intro w' hC; clear hC; go_simp
        simp only [Act.put, List.setIfInBounds_toArray, List.set_cons_zero, List.set_cons_succ]
        refine f_val (.int .i64 (k : Int)) (by rfl) ?_ ?_
        · intro w' hC; clear hC; go_simp
        simp only [Act.put, List.setIfInBounds_toArray, List.set_cons_zero, List.set_cons_succ]
        refine f_val (.int .i64 (k : Int)) (by rfl) ?_ ?_
        · intro w' hC; clear hC; go_simp
        simp only [Act.put, List.setIfInBounds_toArray, List.set_cons_zero, List.set_cons_succ]
        refine f_val (.int .i64 ((k : Int) + 1)) (by rfl) ?_ ?_
        · intro w' hC; have kw := KW.out; clear hC; go_simp
        simp only [Act.put, List.setIfInBounds_toArray, List.set_cons_zero, List.set_cons_succ]
        refine f_val (.slice (some (LA.add (k * 3))) 1 (lc - k)) (by rfl) ?_ ?_
        · intro w' hC; clear hC; go_simp
        simp only [Act.put, List.setIfInBounds_toArray, List.set_cons_zero, List.set_cons_succ]
        refine f_call 14 #[.slice (some ⟨g1, 0, none⟩) 1 1, .slice (some (LA.add (k * 3))) 1 (lc - k)] (.bool true) (by rfl) (by intro w' hC; clear hC; go_simp) ?_ ?_
        · intro w' hC hk; have hsame := same_any (some ⟨g1, 0, none⟩) 1 1 [(x0, x1, y4)] (some (LA.add (k * 3))) 1 (lc - k) [(x0, x1, y4)] w' (item_one (Known.get hk 0 rfl (by rfl)) (HS4.out.grow hC)) ((HONE.out).grow hC) (by omega) (by omega); rw [decide_eq_true rfl] at hsame; exact hsame
        simp only [Act.put, List.setIfInBounds_toArray, List.set_cons_zero, List.set_cons_succ]
        refine f_val (.bool false) (by rfl) ?_ ?_
        · intro w' hC; clear hC; go_simp
        simp only [Act.put, List.setIfInBounds_toArray, List.set_cons_zero, List.set_cons_succ]
        refine f_val (.bool false) (by rfl) ?_ ?_
        · intro w' hC; clear hC; go_simp
        simp only [Act.put, List.setIfInBounds_toArray, List.set_cons_zero, List.set_cons_succ]
        refine f_val (.bool false) (by rfl) ?_ ?_
        · intro w' hC; clear hC; go_simp
        simp only [Act.put, List.setIfInBounds_toArray, List.set_cons_zero, List.set_cons_succ]
        refine f_val (.int .i64 (q : Int)) (by rfl) ?_ ?_
        · intro w' hC; clear hC; go_simp
        simp only [Act.put, List.setIfInBounds_toArray, List.set_cons_zero, List.set_cons_succ]
        refine f_val (.int .i64 (p : Int)) (by rfl) ?_ ?_
        · intro w' hC; clear hC; go_simp
        simp only [Act.put, List.setIfInBounds_toArray, List.set_cons_zero, List.set_cons_succ]
        refine f_val (.bool false) (by rfl) ?_ ?_
        · intro w' hC; have hle := HLE.out; clear hC; go_simp
        simp only [Act.put, List.setIfInBounds_toArray, List.set_cons_zero, List.set_cons_succ]
        refine f_val (.bool false) (by rfl) ?_ ?_
        · intro w' hC; clear hC; go_simp
        simp only [Act.put, List.setIfInBounds_toArray, List.set_cons_zero, List.set_cons_succ]
        intro w5 hC _
        have HCw5 := Lib.hid hC
        clear hC
        go_wp2_with (fail)
        go_roundw
        case rel => exact ⟨q, k + 1, hqn, by omega, rfl, by go_num, HD, Lib.hid (Grows.trans HG4.out HCw5.out)⟩
        case measure => simp [intOf]; omega
      · obtain rfl : k = ts.length := by omega
        have hlast := again_last (by rw [← HE.out.1, List.drop_length]) HE.out.2
        rw [hlast] at hni
        have HNI := Lib.hid hni
        have HNX := Lib.hid hnx
        clear hni hnx hlast
        go_wp2_with (fail)
        refine HNX.out.mono ?_
        rintro e w4 ⟨A4, m4, c4, x0, x1, e4, y4, n4, rfl, hs4, g4, he4⟩
        have hqq := HNI.out.symm.trans he4
        simp only [Prod.mk.injEq] at hqq
        obtain ⟨-, rfl, rfl⟩ := hqq
        have HG4 := Lib.hid (Grows.trans (Grows.trans HG2.out HGR.out) (Grows.trans g4 (grows_alloc w4 (.cells #[.int .i64 (x0 : Nat), .int .i64 (x1 : Nat), .slice A4 m4 c4] 29))))
        clear hs4 g4 he4
        go_wp2_with (fail)
        go_ret
        exact ⟨rfl, HG4.out⟩

set_option maxRecDepth 100000 in
theorem scanAgain_lifted (os : Os) (started : os.Started) (H : Type) (enc : TypeId × Value → H) :
    ReturnsInHanded {} Try.checked os 8 .any (Rows.scanAgainSpec.pre6 enc Try.prog Try.f8 Rows.scanAgainRow.domain false) (Rows.scanAgainSpec.post enc Try.prog Try.f8 false true false false) := by
  refine lift_law (C := Try.checked) H enc own started (by kernel_rfl) Try.func8
    (ChangeSpec.witness6 (enc := enc) (C := Try.checked) false ⟨#[], #[.slice none 0 0], []⟩ 16 (by kernel_rfl) (by kernel_rfl) (by kernel_rfl) (by kernel_rfl))
    laidOut (of_readable (by kernel_rfl)) rfl Try.underlying4 rfl (fun ds hd => ?_) (fun W base args ds p hval hA hsz => ?_)
  · match ds, hd with
    | [d1], _ => rfl
  · rw [Try.params8] at hA hval hsz
    obtain ⟨v0, vs0, d0, ds0, p0, q0, hargs, rfl, rfl, h0, r0⟩ := trodAll_cons hA
    obtain ⟨rfl, rfl, rfl⟩ := trodAll_nil r0
    obtain rfl : args = #[v0] := by cases args; simp_all
    obtain ⟨A0, n0, c0, xs0, rfl, hx0⟩ := open_bytes Try.underlying22 Try.underlying5 (by kernel_rfl) (by kernel_rfl) (hval 0 22 v0 rfl rfl) h0 hsz (j := 0) rfl rfl
    exact again_law A0 n0 c0 xs0 hx0

theorem scanAgain_over : Rows.scanAgainRow.holds Try.pinned (OpenSpec.ofChange Rows.scanAgainSpec) :=
  OpenClaim.holds_of_wide 8 Try.f8 rfl rfl rfl rfl rfl rfl rfl ⟨rfl, rfl, rfl, rfl, rfl⟩ rfl rfl rfl rfl rfl (by kernel_rfl) Try.func8 (by kernel_rfl)
    (of_decide_eq_true (by kernel_rfl)) (by unfold Func.isWrapper; first | (rw [if_pos (by decide +kernel)]; kernel_rfl) | (rw [if_neg (by decide +kernel)]; exact ⟨rfl, rfl⟩))
    (fun os started H enc _ => scanAgain_lifted os started H enc)
theorem scanAgain_holds : Rows.ScanAgainSaid := scanAgain_over
end Go.Proofs.Ytchndjebgpibjaa
