/-
  souterrainlaw12.BookBack: what is put alive, and killed again, in however many parts (at most 200), leaves all of it dead.
-/
import Derived.Test.YtlldcogkcjnejaaBkOps
import Derived.Test.YtlldcogkcjnejaaBkMore
import Derived.ProofKit
import Derived.ChangeOld
namespace Go.Proofs.Ytlldcogkcjnejaa
open Go.Maps Go.Shelf Go.Sort Go.ChangeShapes Go.WideShapes Go.ChangeAt Go.RowKit
set_option linter.unusedSimpArgs false
set_option linter.unusedVariables false
attribute [local irreducible] wpF
attribute [local irreducible] Go.wpQuiet


/-- One segment, put so often. -/
def bkl (s a v : Int) (i : Nat) : List Us := if i = 0 then [] else [⟨s, a, v⟩]
def sumT (bs : List UInt8) (i : Nat) : Nat := ((bs.take i).map (·.toNat)).sum
theorem sumT_zero (bs : List UInt8) : sumT bs 0 = 0 := by simp [sumT]
theorem sumT_step {bs : List UInt8} {i : Nat} (h : i < bs.length) : sumT bs (i + 1) = sumT bs i + (bs.getD i 0).toNat := by
  unfold sumT
  rw [List.take_add_one, List.getElem?_eq_getElem h, List.map_append, List.sum_append]
  simp [h]
theorem sumT_le (bs : List UInt8) : ∀ i, sumT bs i ≤ 255 * i
  | 0 => by rw [sumT_zero]; omega
  | i + 1 => by
    by_cases h : i < bs.length
    · rw [sumT_step h]
      have := sumT_le bs i
      have := (bs.getD i 0).toNat_lt
      omega
    · have : sumT bs (i + 1) = sumT bs i := by unfold sumT; rw [List.take_of_length_le (by omega), List.take_of_length_le (by omega)]
      rw [this]
      have := sumT_le bs i
      omega
theorem bkl_use (s a v : Int) (i : Nat) : useOf s (bkl s a v i) = (if i = 0 then ⟨0, 0, 0⟩ else ⟨s, a, v⟩) ∧ hasU s (bkl s a v i) = decide (0 < i) := by
  unfold bkl
  by_cases h : i = 0
  · subst h; simp [useOf, hasU, ufind]
  · have h2 : 0 < i := by omega
    simp [h, useOf, hasU, ufind, h2]
theorem bkl_put {s a v : Int} {i : Nat} (x : Us) (hx : x.seg = s) : uput x (bkl s a v i) = [x] := by
  unfold bkl
  by_cases h : i = 0
  · subst h; rfl
  · simp [h, uput, udel, hx, uins]
theorem put_bkl {s : Int} {a : Nat} {i b : Nat} (hs : 0 ≤ s ∧ s < 65536) (h0 : i = 0 → a = 0) (ha : a ≤ 1000000) (hb : b < 256) : putB s (b : Int) (bkl s a a i) = true ∧ putU s (b : Int) true (bkl s a a i) = bkl s ((a + b : Nat) : Int) ((a + b : Nat) : Int) (i + 1) := by
  have hu := (bkl_use s a a i).1
  have e1 : (useOf s (bkl s a a i)).all = (a : Int) ∧ (useOf s (bkl s a a i)).live = (a : Int) := by
    rw [hu]
    by_cases h : i = 0
    · have := h0 h
      subst this
      rw [if_pos h]
      exact ⟨rfl, rfl⟩
    · rw [if_neg h]
      exact ⟨rfl, rfl⟩
  have hp : putB s (b : Int) (bkl s a a i) = true := by
    unfold putB
    rw [e1.1]
    exact decide_eq_true (by omega)
  refine ⟨hp, ?_⟩
  unfold putU newU
  rw [if_pos hp, e1.1, e1.2, bkl_put _ rfl, if_pos rfl]
  unfold bkl
  rw [if_neg (show ¬ i + 1 = 0 by omega)]
  have e : (a : Int) + (b : Int) = ((a + b : Nat) : Int) := by omega
  rw [e]
theorem kill_bkl {s a : Int} {v m b : Nat} (hm : 0 < m) (hb : b ≤ v) : killB s (b : Int) (bkl s a v m) = true ∧ killU s (b : Int) (bkl s a v m) = bkl s a ((v - b : Nat) : Int) m := by
  have hu := bkl_use s a v m
  have hn : ¬ m = 0 := by omega
  rw [if_neg hn] at hu
  have hk : killB s (b : Int) (bkl s a v m) = true := by
    unfold killB
    rw [hu.1, hu.2, decide_eq_true hm, Bool.true_and]
    exact decide_eq_true (by dsimp only; omega)
  refine ⟨hk, ?_⟩
  unfold killU
  rw [if_pos hk, hu.1, bkl_put _ rfl]
  unfold bkl
  rw [if_neg hn]
  congr 2
  dsimp only
  omega
theorem kill_none {s a : Int} {m : Nat} : killB s 1 (bkl s a 0 m) = false := by
  unfold killB
  have hu := bkl_use s a 0 m
  rw [hu.1]
  by_cases h : m = 0
  · rw [hu.2, h]; rfl
  · rw [if_neg h, Bool.and_eq_false_iff]
    right
    exact decide_eq_false (by dsimp only; omega)
set_option maxRecDepth 100000 in
set_option maxHeartbeats 8000000 in
theorem bookBack_law (w : World) (sg : Int) (hsg : 0 ≤ sg ∧ sg < 65536) (A : Option Addr) (n c : Nat) (bs : List UInt8) (hx : Came w A n c bs) :
    Calls Try.prog 7 #[.int .u16 sg, .slice A n c] w fun e w' => e = .returned (.bool true) ∧ Below w.heap.size w w' := by
  have HX := Lib.hid (show Bytes w w.heap.size A n bs from hx.bytes)
  have hcap := hx.cap
  have HSG := Lib.hid hsg
  have HWS := Lib.hid (wrapI (x := sg) (by omega) (by omega))
  clear hx hsg
  go_enter Try.func7, Try.ntmps7
  go_wp2_with (fail)
  refine (head12_any w).mono ?_
  rintro e w0 ⟨rfl, hg0⟩
  have HG0 := Lib.hid hg0
  clear hg0
  go_wp2_with (fail)
  refine (new_any w0).mono ?_
  rintro e w1 ⟨pb, bb, rfl, hb1, hg1, hp1, hq1⟩
  have H1 := Lib.hid (And.intro hb1 (Grows.trans HG0.out hg1))
  have HLO := Lib.hid (show w.heap.size ≤ bb from by have := HG0.out.size; omega)
  clear hb1 hg1 hp1 hq1
  by_cases hn : 200 < n
  · go_wp2_with (fail)
    go_ret
    exact ⟨rfl, H1.out.2⟩
  have HLEN := Lib.hid (Bytes.len HX.out)
  go_wp2_with (fail)
  go_loopw [7, 8] (fun vn vi wr => ∃ (i : Nat), i ≤ n ∧ vi = .int .i64 (i : Int) ∧ vn = .int .i64 (sumT bs i : Int) ∧ Hid (BkAt wr pb bb i (bkl sg (sumT bs i) (sumT bs i) i)) ∧ Hid (Grows w wr)) (fun _ vi _ => n - (intOf vi).toNat)
  case atStart => exact ⟨0, Nat.zero_le _, rfl, by rw [sumT_zero]; rfl, Lib.hid H1.out.1, Lib.hid H1.out.2⟩
  case round =>
    obtain ⟨i, hi, rfl, rfl, HBB, HG⟩ := hrel
    by_cases hlt : i < n
    · have hil : i < bs.length := by have := HLEN.out; omega
      obtain ⟨ad, rfl, hbl, hc0⟩ := HX.out.spot hlt
      have hst := sumT_step hil
      have hle := sumT_le bs i
      have hb256 := (bs.getD i 0).toNat_lt
      obtain ⟨x, hx⟩ : ∃ x, (bs.getD i 0).toNat = x := ⟨_, rfl⟩
      rw [hx] at hc0 hst hb256
      have hi0 : i = 0 → sumT bs i = 0 := fun e => by subst e; exact sumT_zero bs
      obtain ⟨S, hS⟩ : ∃ S, sumT bs i = S := ⟨_, rfl⟩
      obtain ⟨T, hT⟩ : ∃ T, sumT bs (i + 1) = T := ⟨_, rfl⟩
      rw [hS] at HBB hi0 hst hle
      rw [hT] at hst
      rw [hS]
      have HC := Lib.hid (show ∀ w', Grows w w' → w'.cell? (ad.add i) = some (.int .u8 (x : Int)) from fun w' h => (h.cell (by rw [add_block]; exact hbl)).trans hc0)
      have hpb := put_bkl (s := sg) (i := i) (b := x) HSG.out hi0 (by omega) (by omega)
      have HPU := Lib.hid (show Calls Try.prog 16 #[.pointer (some ⟨pb, 0, none⟩), .int .i64 sg, .int .i64 (x : Int), .bool true] wr (BkTo wr pb bb i (bkl sg (T : Int) (T : Int) (i + 1)) true) from by
        have h0 := put_use HBB.out (by omega) (k := sg) (by have := HSG.out; omega) (by have := HSG.out; omega) (x : Int) true
        rw [hpb.1, hpb.2, ← hst] at h0
        exact h0)
      have kc := HC.out wr HG.out
      have k0 : (0 : Int) ≤ (i : Int) := by omega
      have k1 : (i : Int) < (n : Int) := by omega
      have bx : -9223372036854775808 ≤ (x : Int) ∧ (x : Int) ≤ 9223372036854775807 ∧ -9223372036854775808 ≤ (T : Int) ∧ (T : Int) ≤ 9223372036854775807 := by omega
      have hsum : (S : Int) + (x : Int) = (T : Int) := by omega
      have HT := Lib.hid hT
      clear hbl hc0 hst hle hb256 hx hi0 hS hT hpb hil
      obtain ⟨wx1, wx2⟩ := wrapI bx.1 bx.2.1
      obtain ⟨wT1, wT2⟩ := wrapI bx.2.2.1 bx.2.2.2
      obtain ⟨wsg1, wsg2⟩ := HWS.out
      clear bx
      go_wp2_with (fail)
      refine HPU.out.mono ?_
      rintro e w4 ⟨⟨rfl, hb, hs⟩, _⟩
      clear wx1 wx2 wT1 wT2 wsg1 wsg2
      have HF := Lib.hid (show BkAt w4 pb bb (i + 1) (bkl sg (T : Int) (T : Int) (i + 1)) ∧ Grows w w4 from ⟨hb, grow_book HG.out hs HLO.out⟩)
      clear hb hs
      go_wp2_with (fail)
      go_roundw
      case rel => exact ⟨i + 1, by omega, by go_num, by rw [HT.out], Lib.hid (by rw [HT.out]; exact HF.out.1), Lib.hid HF.out.2⟩
      case measure => simp [intOf]; omega
    · obtain rfl : i = n := by omega
      have HB0 := Lib.hid (And.intro HBB.out HG.out)
      have hle := sumT_le bs i
      obtain ⟨S, hS⟩ : ∃ S, sumT bs i = S := ⟨_, rfl⟩
      rw [hS] at HB0 hle
      rw [hS]
      have HS := Lib.hid hS
      have HWL := Lib.hid (wrapI (x := (i : Int) - 1) (by omega) (by omega))
      clear HBB HG hS
      obtain ⟨wl1, wl2⟩ := HWL.out
      go_wp2_with (fail)
      clear wl1 wl2
      go_loopw [9] (fun vi wr => ∃ (j : Nat), j ≤ i ∧ vi = .int .i64 ((j : Int) - 1) ∧ Hid (BkAt wr pb bb (i + (i - j)) (bkl sg (S : Int) (sumT bs j : Int) i)) ∧ Hid (Grows w wr)) (fun vi _ => (intOf vi + 1).toNat)
      case atStart => exact ⟨i, Nat.le_refl _, rfl, Lib.hid (by rw [HS.out, Nat.sub_self]; exact HB0.out.1), Lib.hid HB0.out.2⟩
      case round =>
        obtain ⟨j, hj, hv, HBB, HG⟩ := hrel
        cases j with
        | zero =>
          rw [show ((0 : Nat) : Int) - 1 = -1 from rfl] at hv
          subst hv
          rw [sumT_zero] at HBB
          have hbu := bkl_use sg (S : Int) ((0 : Nat) : Int) i
          obtain ⟨⟨u0, u1, u2⟩, hue⟩ : ∃ z, useOf sg (bkl sg (S : Int) ((0 : Nat) : Int) i) = z := ⟨_, rfl⟩
          have hv : u1 = (S : Int) ∧ u2 = 0 := by
            have h1 := hbu.1
            rw [hue] at h1
            by_cases h : i = 0
            · rw [if_pos h] at h1
              injection h1 with _ h2 h3
              have := HS.out
              rw [h, sumT_zero] at this
              omega
            · rw [if_neg h] at h1
              injection h1 with _ h2 h3
              omega
          have HOF := Lib.hid (show Calls Try.prog 18 #[.pointer (some ⟨pb, 0, none⟩), .int .i64 sg] wr fun e w' => e = .returned (.tuple #[.agg #[.int .i64 u0, .int .i64 u1, .int .i64 u2], .bool (decide (0 < i))]) ∧ Grows wr w' from by
            have h0 := of_use HBB.out (k := sg) (by have := HSG.out; omega) (by have := HSG.out; omega)
            rw [hue, hbu.2] at h0
            exact h0)
          obtain ⟨rfl, hu2⟩ := hv
          have hz : (u2 == 0) = true := by rw [hu2]; rfl
          obtain ⟨hh, hhe⟩ : ∃ z, decide (0 < i) = z := ⟨_, rfl⟩
          rw [hhe] at HOF
          have hhc : decide ((0 : Int) < (i : Int)) = hh := by rw [← hhe]; exact decide_eq_decide.2 (by omega)
          have hhc2 : (hh == hh) = true := by cases hh <;> rfl
          have hss : ((S : Int) == (S : Int)) = true := by simp
          clear hue hbu hu2
          obtain ⟨wsg1, wsg2⟩ := HWS.out
          go_wp2_with (fail)
          refine HOF.out.mono ?_
          rintro e w4 ⟨rfl, hg4⟩
          obtain ⟨W4, hW4⟩ : ∃ W, w4.alloc (.cells #[.int .i64 u0, .int .i64 (S : Int), .int .i64 u2] 34) = W := ⟨_, rfl⟩
          have HG4 := Lib.hid (show Grows wr W4 from Grows.trans hg4 (hW4 ▸ grows_alloc _ _))
          have hmm : Whole W4 w4.heap.size 34 #[.int .i64 u0, .int .i64 (S : Int), .int .i64 u2] := by rw [← hW4]; exact Whole.made _ _ _
          have e1 := hmm.cell 1
          have e2 := hmm.cell 2
          simp only [List.getElem?_toArray, List.getElem?_cons_zero, List.getElem?_cons_succ] at e1 e2
          have HKN := Lib.hid (show Calls Try.prog 12 #[.pointer (some ⟨pb, 0, none⟩), .int .i64 sg, .int .i64 1] W4 fun e w' => e = .returned (.bool false) ∧ Grows W4 w' from
            (kill_use (HBB.out.grow HG4.out) (by have := HLEN.out; omega) (k := sg) (by have := HSG.out; omega) (by have := HSG.out; omega) 1).mono fun e w' h => ⟨h.1.1.trans (by rw [show killB sg 1 (bkl sg (S : Int) ((0 : Nat) : Int) i) = false from kill_none]), h.2 kill_none⟩)
          clear hg4 hmm
          go_wp2_with (first | rw [hW4] | fail)
          refine HKN.out.mono ?_
          rintro e w5 ⟨rfl, hg5⟩
          have H5 := Lib.hid hg5
          clear hg5
          go_wp2_with (fail)
          go_ret
          exact ⟨rfl, Grows.trans (Grows.trans HG.out HG4.out) H5.out⟩
        | succ t =>
          rw [show ((t + 1 : Nat) : Int) - 1 = (t : Int) by omega] at hv
          subst hv
          have hil : t < bs.length := by have := HLEN.out; omega
          obtain ⟨ad, rfl, hbl, hc0⟩ := HX.out.spot (k := t) (by have := HLEN.out; omega)
          have hst := sumT_step hil
          have hb256 := (bs.getD t 0).toNat_lt
          obtain ⟨x, hx⟩ : ∃ x, (bs.getD t 0).toNat = x := ⟨_, rfl⟩
          rw [hx] at hc0 hst hb256
          obtain ⟨V, hV⟩ : ∃ S, sumT bs (t + 1) = S := ⟨_, rfl⟩
          rw [hV] at HBB hst
          have HC := Lib.hid (show ∀ w', Grows w w' → w'.cell? (ad.add t) = some (.int .u8 (x : Int)) from fun w' h => (h.cell (by rw [add_block]; exact hbl)).trans hc0)
          have hkb := kill_bkl (s := sg) (a := (S : Int)) (v := V) (m := i) (b := x) (by omega) (by omega)
          have hvt : V - x = sumT bs t := by omega
          have HKI := Lib.hid (show Calls Try.prog 12 #[.pointer (some ⟨pb, 0, none⟩), .int .i64 sg, .int .i64 (x : Int)] wr (BkTo wr pb bb (i + (i - (t + 1))) (bkl sg (S : Int) (sumT bs t : Int) i) true) from by
            have h0 := kill_use HBB.out (by omega) (k := sg) (by have := HSG.out; omega) (by have := HSG.out; omega) (x : Int)
            rw [hkb.1, hkb.2, hvt] at h0
            exact h0)
          have kc := HC.out wr HG.out
          have k0 : (0 : Int) ≤ (t : Int) := by omega
          have k1 : (t : Int) < (i : Int) := by omega
          have bx : -9223372036854775808 ≤ (x : Int) ∧ (x : Int) ≤ 9223372036854775807 ∧ -9223372036854775808 ≤ (t : Int) - 1 ∧ (t : Int) - 1 ≤ 9223372036854775807 := by omega
          clear hbl hc0 hst hb256 hx hV hkb hvt hil
          obtain ⟨wx1, wx2⟩ := wrapI bx.1 bx.2.1
          obtain ⟨wt1, wt2⟩ := wrapI bx.2.2.1 bx.2.2.2
          obtain ⟨wsg1, wsg2⟩ := HWS.out
          clear bx
          go_wp2_with (fail)
          refine HKI.out.mono ?_
          rintro e w4 ⟨⟨rfl, hb, hs⟩, _⟩
          have HF := Lib.hid (show BkAt w4 pb bb (i + (i - (t + 1)) + 1) (bkl sg (S : Int) (sumT bs t : Int) i) ∧ Grows w w4 from ⟨hb, grow_book HG.out hs HLO.out⟩)
          clear hb hs
          go_wp2_with (fail)
          clear wx1 wx2 wsg1 wsg2
          go_roundw
          case rel => exact ⟨t, by omega, by go_num, Lib.hid (by rw [show i + (i - t) = i + (i - (t + 1)) + 1 by omega]; exact HF.out.1), Lib.hid HF.out.2⟩
          case measure => simp [intOf]


set_option maxRecDepth 100000 in
theorem bookBack_lifted (os : Os) (started : os.Started) (H : Type) (enc : TypeId × Value → H) :
    ReturnsInHanded {} Try.checked os 7 .any (Rows.bookBackSpec.pre6 enc Try.prog Try.f7 Rows.bookBackRow.domain false) (Rows.bookBackSpec.post enc Try.prog Try.f7 false true false false) := by
  refine lift_law (C := Try.checked) H enc own started (by kernel_rfl) Try.func7
    (ChangeSpec.witness6 (enc := enc) (C := Try.checked) false ⟨#[], #[.int .u16 0, .slice none 0 0], []⟩ 16 (by kernel_rfl) (by kernel_rfl) (by kernel_rfl) (by kernel_rfl))
    laidOut (of_readable (by kernel_rfl)) rfl Try.underlying4 rfl (fun ds hd => ?_) (fun W base args ds p hval hA hsz => ?_)
  · match ds, hd with
    | [d1, d2], _ => rfl
  · rw [Try.params7] at hA hval hsz
    obtain ⟨v0, vs0, d0, ds0, p0, q0, hargs, rfl, rfl, h0, r0⟩ := trodAll_cons hA
    obtain ⟨v1, vs1, d1, ds1, p1, q1, rfl, rfl, rfl, h1, r1⟩ := trodAll_cons r0
    obtain ⟨rfl, rfl, rfl⟩ := trodAll_nil r1
    obtain rfl : args = #[v0, v1] := by cases args; simp_all
    obtain ⟨a0, rfl, _, _, w0⟩ := open_int Try.underlying47 (hval 0 47 v0 rfl rfl) h0
    have b0 := bounds_u16 w0
    obtain ⟨A1, n1, c1, xs1, rfl, hx1⟩ := open_bytes Try.underlying48 Try.underlying5 (by kernel_rfl) (by kernel_rfl) (hval 1 48 v1 rfl rfl) h1 hsz (j := 1) rfl rfl
    exact bookBack_law W a0 (by omega) A1 n1 c1 xs1 hx1

theorem bookBack_over : Rows.bookBackRow.holds Try.pinned (OpenSpec.ofChange Rows.bookBackSpec) :=
  OpenClaim.holds_of_wide 7 Try.f7 rfl rfl rfl rfl rfl rfl rfl ⟨rfl, rfl, rfl, rfl, rfl⟩ rfl rfl rfl rfl rfl (by kernel_rfl) Try.func7 (by kernel_rfl)
    (of_decide_eq_true (by kernel_rfl)) (by unfold Func.isWrapper; first | (rw [if_pos (by decide +kernel)]; kernel_rfl) | (rw [if_neg (by decide +kernel)]; exact ⟨rfl, rfl⟩))
    (fun os started H enc _ => bookBack_lifted os started H enc)
theorem bookBack_holds : Rows.BookBackSaid := bookBack_over
end Go.Proofs.Ytlldcogkcjnejaa
