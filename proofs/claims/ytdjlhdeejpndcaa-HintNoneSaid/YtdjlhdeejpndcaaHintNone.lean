/-
  HintNone: of pieces alone there are no hints; of none there are bytes, told apart by how long the segment is.
-/
import Derived.Test.YtdjlhdeejpndcaaRows
import Derived.Test.YtdjlhdeejpndcaaChecked
import Derived.Test.YtdjlhdeejpndcaaFrame
import Derived.Test.YtdjlhdeejpndcaaSeat
import Derived.Test.YtdjlhdeejpndcaaHtIn
import Derived.Test.YtdjlhdeejpndcaaHtHead
import Derived.Test.YtdjlhdeejpndcaaHtHead11
import Derived.Test.YtdjlhdeejpndcaaRowsIn
import Derived.ProofKit
import Derived.ChangeOld
namespace Go.Proofs.Ytdjlhdeejpndcaa
open Go.ChangeShapes Go.WideShapes Go.ChangeAt Go.RowKit
set_option linter.unusedSimpArgs false
set_option linter.unusedVariables false
theorem infoFd : (Try.prog.info? 43).map (fun i => (i.zero, i.size, i.bytes)) = some (some (.agg #[.int .i64 0, .int .i64 0, .int .i64 0, .string ⟨#[]⟩, .int .i64 0, .int .i64 0, .int .i64 0, .slice none 0 0, .slice none 0 0]), 9, 112) := by kernel_rfl
theorem of_pieces (l : List Fd) (h : ∀ f ∈ l, f.kind = 1) : ofP l = [] := by
  refine list_snoc (p := fun l => (∀ f ∈ l, f.kind = 1) → ofP l = []) (fun _ => rfl) (fun l f ih hh => ?_) l h
  rw [ofP_snoc, if_neg, ih fun g hg => hh g (List.mem_append_left _ hg)]
  have := hh f (List.mem_append_right _ (List.mem_singleton.2 rfl))
  unfold toldF hintedB
  rw [this]
  simp

theorem right_nil (w : World) : Calls Try.prog 12 #[.slice none 0 0] w fun e w' => e = .returned (.bool true) ∧ Grows w w' := hright_any none 0 0 [] w (Rs.nil _) (by omega)
theorem put_nil (a : Int) (ha : okS a = true) (w : World) : Calls Try.prog 9 #[.slice none 0 0, .int .i64 a] w fun e w' => ∃ A c, e = .returned (.slice A 21 c) ∧ Sl w' A 21 c (putH [] a) ∧ Grows w w' := by
  have h21 : (putH [] a).length = 21 := by rw [putH_length rfl ha]; rfl
  refine (hput_any none 0 0 [] a w (Rs.nil _) (by omega) (by have := okS_nums ha; omega)).mono ?_
  rintro e w' ⟨A, m, c, rfl, hm, ho, hg⟩
  rw [h21] at hm
  subst hm
  exact ⟨A, c, rfl, Sl.owned ho, hg⟩
set_option maxHeartbeats 16000000 in
set_option maxRecDepth 100000 in
theorem hintNone_law (w : World) (A0 : Option Addr) (n0 c0 : Nat) (l : List Fd) (hx : Fds w A0 n0 c0 l) (hn : n0 ≤ 4000000000000) (a : Int) (ha : 0 ≤ a ∧ a ≤ 65535) (b : Int) (hb : 0 ≤ b ∧ b ≤ 65535) :
    Calls Try.prog 6 #[.slice A0 n0 c0, .int .u16 a, .int .u16 b] w fun e w' => e = .returned (.bool true) ∧ Below w.heap.size w w' := by
  have HX := Lib.hid hx
  have hlen := hx.len
  have HGR := Lib.hid (fun w' (hg : Grows w w') => great_any A0 n0 c0 l w' (hx.grow hg) (by omega))
  have hka : okS a = true := by simp [okS]; omega
  have hkb : okS b = true := by simp [okS]; omega
  have HPU := Lib.hid (fun w' => put_nil a hka w')
  obtain ⟨q, hq⟩ : ∃ q, getH (putH [] a) b = q := ⟨_, rfl⟩
  have HQ := Lib.hid (show q = if b = a then some [] else none by rw [← hq]; exact get_putH rfl hka b)
  have HGE := Lib.hid (fun w' A c (h : Sl w' A 21 c (putH [] a)) => hq ▸ hget_any A 21 c (putH [] a) b w' h (by omega))
  have wa : IntKind.i64.wrap a = a := IntWalk.i64_in _ ⟨by omega, by omega⟩
  have wb : IntKind.i64.wrap b = b := IntWalk.i64_in _ ⟨by omega, by omega⟩
  obtain ⟨i0, hi0, hz0, hz1, hz2⟩ := info_of infoFd
  have HI := Lib.hid (And.intro hi0 (And.intro hz0 (And.intro hz1 hz2)))
  clear hx hka hkb hq hi0 hz0 hz1 hz2
  go_enter Try.func6, Try.ntmps6
  go_wp2_with (fail)
  refine (head11_any w).mono ?_
  rintro e w1 ⟨rfl, hg1⟩
  have HG1 := Lib.hid hg1
  clear hg1
  go_wp2_with (fail)
  refine (HGR.out w1 HG1.out).mono ?_
  rintro e w2 ⟨r, rfl, hr, hg2⟩
  have HG2 := Lib.hid (And.intro (HG1.out.trans hg2) hr)
  clear hg2 hr
  cases r
  rotate_left 1
  · go_wp2_with (fail)
    go_ret
    exact ⟨rfl, HG2.out.1⟩
  have hn3 := HG2.out.2 rfl
  go_wp2_with (fail)
  go_loopw [8, 9] (fun s i wr => ∃ (j : Nat) (B : Option Addr) (m cb : Nat) (ps : List Fd), j ≤ n0 ∧ i = .int .i64 (j : Nat) ∧ s = .slice B m cb ∧ Hid (m ≤ j) ∧ Hid (ps.length = m ∧ ∀ f ∈ ps, f.kind = 1) ∧ Hid (wr.ownsRow w2.heap.size 43 9 (.slice B m cb) m (ps.flatMap fdE)) ∧ Hid (Grows w2 wr)) (fun _ i _ => n0 - (intOf i).toNat)
  case atStart => exact ⟨0, none, 0, 0, [], by omega, rfl, rfl, Lib.hid (Nat.le_refl _), Lib.hid ⟨rfl, fun f hf => by cases hf⟩, Lib.hid (World.ownsRow_nil _ _ _ _), Lib.hid (Grows.refl _)⟩
  case round =>
    obtain ⟨j, B, m, cb, ps, hj, rfl, rfl, HM, HP, HO, HG⟩ := hrel
    have HGW := Lib.hid (HG2.out.1.trans HG.out)
    by_cases hlt : j < n0
    · obtain ⟨ad, x, rfl, hxx, hbb, hc⟩ := Fds.at HX.out hlt
      have hlt' : (j : Int) < (n0 : Int) := by omega
      have k0 : (0 : Int) ≤ (j : Int) := by omega
      obtain ⟨c0, c1, c2, c3, c4, c5, c6, c7, c8⟩ := hc wr HGW.out
      obtain ⟨xa, xz, xk, xs, xi, xn, xq, ⟨la, ln, lc⟩, ⟨ba, bn, bc⟩⟩ := x
      dsimp only at c0 c1 c2 c3 c4 c5 c6 c7 c8
      clear hc hbb hxx
      obtain ⟨ks, hks⟩ : ∃ ks : ByteArray, (⟨xs.toArray⟩ : ByteArray) = ks := ⟨_, rfl⟩
      rw [hks] at c3
      have HKS := Lib.hid hks
      clear hks
      by_cases hk : xk = 1
      rotate_left 1
      · have hk' : (xk == 1) = false := by simpa using hk
        go_wp2_with (fail)
        go_roundw
        case rel => exact ⟨j + 1, B, m, cb, ps, by omega, by go_num, rfl, Lib.hid (by have := HM.out; omega), HP, HO, HG⟩
        case measure => simp [intOf]; omega
      · subst hk
        have hg3 := grows_alloc wr (.cells #[.int .i64 xa, .int .i64 xz, .int .i64 1, .string ks, .int .i64 xi, .int .i64 xn, .int .i64 xq, .slice la ln lc, .slice ba bn bc] 43)
        have hm3 := Whole.made wr 43 #[.int .i64 xa, .int .i64 xz, .int .i64 1, .string ks, .int .i64 xi, .int .i64 xn, .int .i64 xq, .slice la ln lc, .slice ba bn bc]
        have H3 := Lib.hid (And.intro (owned_grow HO.out hg3) (Grows.trans HG.out hg3))
        have HM3 := Lib.hid hm3
        obtain ⟨m1, hm1⟩ : ∃ q, m + 1 = q := ⟨_, rfl⟩
        have HM1 := Lib.hid hm1
        clear hg3 hm3 hm1
        go_wp2_with (first
          | (at_builtin
             refine list_append_at rfl (.tmp 29) (.tmp 34) 31 rfl w2.heap.size 43 i0 (.agg #[.int .i64 0, .int .i64 0, .int .i64 0, .string ⟨#[]⟩, .int .i64 0, .int .i64 0, .int .i64 0, .slice none 0 0, .slice none 0 0]) 9 112 Try.underlying31 HI.out.1 HI.out.2.1 HI.out.2.2.1 HI.out.2.2.2 rfl (by omega)
               rfl H3.out.1 (A := some ⟨wr.heap.size, 0, none⟩) (m := 1) (c := 1) rfl (Rs.lit fdL HM3.out [(⟨xa, xz, 1, xs, xi, xn, xq, (la, ln, lc), (ba, bn, bc)⟩ : Fd)] (by rw [← HKS.out]; rfl) (n := 1) rfl).row (fun h => by cases h) (fun u hu => fdE_one ⟨xa, xz, 1, xs, xi, xn, xq, (la, ln, lc), (ba, bn, bc)⟩ u (by simpa using hu)) m1 HM1.out (by unfold maxLen; have := HM.out; have := HM1.out; omega) (by have := HM.out; have := HM1.out; omega) H3.out.2.size ?_
             intro A5 c5 w5 ho5 hg5 _
             have H5 := Lib.hid (And.intro ho5 (below_append H3.out.2 hg5 H3.out.2.size (fun g hg => (owned_lt3 H3.out.1 hg).1)))
             clear ho5 hg5)
          | fail)
        go_roundw
        case rel => exact ⟨j + 1, A5, m1, c5, ps ++ [⟨xa, xz, 1, xs, xi, xn, xq, (la, ln, lc), (ba, bn, bc)⟩], by omega, by go_num, rfl, Lib.hid (by have := HM.out; have := HM1.out; omega), Lib.hid ⟨by rw [List.length_append, HP.out.1, List.length_singleton]; exact HM1.out, fun f hf => by
            rcases List.mem_append.1 hf with hf | hf
            · exact HP.out.2 f hf
            · rw [List.mem_singleton.1 hf]⟩, Lib.hid (by rw [flat_snoc]; simpa using H5.out.1), Lib.hid H5.out.2⟩
        case measure => simp [intOf]; omega
    · have hlt' : ¬ (j : Int) < (n0 : Int) := by omega
      have hnil : ofP ps = [] := of_pieces ps HP.out.2
      have HOF := Lib.hid (fun w' (hC : Grows wr w') => by
        have h1 := of_hints B m cb ps w' (Rs.owned fdL HP.out.1 (owned_from (owned_grow HO.out hC) (Nat.zero_le _))) (by have := HM.out; omega)
        rw [hnil] at h1
        exact h1)
      clear hnil
      go_wp2_with (fail)
      refine (HPU.out wr).mono ?_
      rintro e w3 ⟨A3, c3, rfl, hs3, hg3⟩
      have H3 := Lib.hid (And.intro hs3 hg3)
      clear hs3 hg3
      go_wp2_with (fail)
      refine (HGE.out w3 A3 c3 H3.out.1).mono ?_
      rintro e w4 ⟨A4, m4, c4, rfl, hm4, _, hg4⟩
      have hm40 : m4 = 0 := by
        rw [hm4, HQ.out]
        split <;> rfl
      subst hm40
      have hqs : q.isSome = decide (a = b) := by
        rw [HQ.out]
        by_cases h : b = a
        · rw [if_pos h, decide_eq_true h.symm]; rfl
        · rw [if_neg h, decide_eq_false (Ne.symm h)]; rfl
      rw [hqs]
      have hab : (a == b) = decide (a = b) := by
        rw [Bool.eq_iff_iff]; simp
      have H4 := Lib.hid (And.intro (HGW.out.trans (H3.out.2.trans hg4)) (H3.out.2.trans hg4))
      obtain ⟨eq, heq⟩ : ∃ b', decide (a = b) = b' := ⟨_, rfl⟩
      rw [heq] at hab ⊢
      have HE := Lib.hid heq
      clear hg4 hqs hm4 heq
      go_wp2_with (fail)
      refine (HOF.out w4 H4.out.2).mono ?_
      rintro e w5 ⟨A5, c5, rfl, _, hg5⟩
      have H5 := Lib.hid (H4.out.1.trans hg5)
      clear hg5
      show _
      go_wp2_with (fail)
      refine (right_nil w5).mono ?_
      rintro e w6 ⟨rfl, hg6⟩
      have H6 := Lib.hid (H5.out.trans hg6)
      clear hg6
      cases eq
      all_goals
        go_wp2_with (fail)
        refine (HPU.out w6).mono ?_
        rintro e w7 ⟨A7, c7, rfl, _, hg7⟩
        have H7 := Lib.hid (H6.out.trans hg7)
        clear hg7
        go_wp2_with (fail)
        go_ret
        exact ⟨rfl, H7.out⟩

set_option maxRecDepth 100000 in
theorem hintNone_lifted (os : Os) (started : os.Started) (H : Type) (enc : TypeId × Value → H) :
    ReturnsInHanded {} Try.checked os 6 .any (Rows.hintNoneSpec.pre6 enc Try.prog Try.f6 Rows.hintNoneRow.domain false) (Rows.hintNoneSpec.post enc Try.prog Try.f6 false true false false) := by
  refine lift_law (C := Try.checked) H enc own started (by kernel_rfl) Try.func6
    (ChangeSpec.witness6 (enc := enc) (C := Try.checked) false ⟨#[], #[.slice none 0 0, .int .u16 0, .int .u16 0], []⟩ 16 (by kernel_rfl) (by kernel_rfl) (by kernel_rfl) (by kernel_rfl))
    laidOut (of_readable (by kernel_rfl)) rfl Try.underlying4 rfl (fun ds hd => ?_) (fun W base args ds p hval hA hsz => ?_)
  · match ds, hd with
    | [d1, d2, d3], _ => rfl
  · rw [Try.params6] at hA hval hsz
    obtain ⟨v0, vs0, d0, ds0, p0, q0, hargs, rfl, rfl, h0, r0⟩ := trodAll_cons hA
    obtain ⟨v1, vs1, d1, ds1, p1, q1, rfl, rfl, rfl, h1, r1⟩ := trodAll_cons r0
    obtain ⟨v2, vs2, d2, ds2, p2, q2, rfl, rfl, rfl, h2, r2⟩ := trodAll_cons r1
    obtain ⟨rfl, rfl, rfl⟩ := trodAll_nil r2
    obtain rfl : args = #[v0, v1, v2] := by cases args; simp_all
    obtain ⟨A0, n0, c0, xs0, rfl, hx0, hb0⟩ := open_founds (hval 0 31 v0 rfl rfl) h0 hsz (j := 0) rfl rfl
    obtain ⟨a1, rfl, _, _, w1⟩ := open_int Try.underlying38 (hval 1 38 v1 rfl rfl) h1
    have b1 := bounds_u16 w1
    obtain ⟨a2, rfl, _, _, w2⟩ := open_int Try.underlying38 (hval 2 38 v2 rfl rfl) h2
    have b2 := bounds_u16 w2
    exact hintNone_law W A0 n0 c0 xs0 hx0 hb0 a1 (by omega) a2 (by omega)

theorem hintNone_over : Rows.hintNoneRow.holds Try.pinned (OpenSpec.ofChange Rows.hintNoneSpec) :=
  OpenClaim.holds_of_wide 6 Try.f6 rfl rfl rfl rfl rfl rfl rfl ⟨rfl, rfl, rfl, rfl, rfl⟩ rfl rfl rfl rfl rfl (by kernel_rfl) Try.func6 (by kernel_rfl)
    (of_decide_eq_true (by kernel_rfl)) (by unfold Func.isWrapper; first | (rw [if_pos (by decide +kernel)]; kernel_rfl) | (rw [if_neg (by decide +kernel)]; exact ⟨rfl, rfl⟩))
    (fun os started H enc _ => hintNone_lifted os started H enc)
theorem hintNone_holds : Rows.HintNoneSaid := hintNone_over
end Go.Proofs.Ytdjlhdeejpndcaa
