/-
  Statement CutPlays: calls of a cutter of any size answer as the document says; so do how much was written, and is left. Every size, all calls, no condition.
-/
import Derived.Test.YtlcpbkbojjpfaaaCutGreat
import Derived.ProofKit
import Derived.ChangeOld
namespace Go.Proofs.Ytlcpbkbojjpfaaa
open Go.ChangeShapes Go.WideShapes Go.ChangeAt Go.RowKit
set_option linter.unusedSimpArgs false
set_option linter.unusedVariables false

theorem CutHas.aloneR {w w' : World} {g g2 B P Z P2 Z2 : Nat} {v : Value} {L L2 : List UInt8} (h : CutHas w g B P Z v L) (hr : RefHas w g2 P2 Z2 L2) (hne : g ≠ g2) (hs : Spares (fun k => k = g2) w w') : CutHas w' g B P Z v L :=
  h.keep fun k hk => by
    rcases hk with rfl | hk
    · exact hs.same _ h.cells.lt hne
    · exact hs.same _ (owned_lt h.left hk).2 fun e => owned_type h.left hr (by decide) (by rw [hk, e])

set_option maxRecDepth 100000 in
set_option maxHeartbeats 8000000 in
theorem cutPlays_law (w : World) (s : Int) (hs : -9223372036854775808 ≤ s ∧ s < 9223372036854775808) (A : Option Addr) (n c : Nat) (os : List (Int × List UInt8)) (hx : Ops w A n c os) :
    Calls Try.prog 5 #[.int .i64 s, .slice A n c] w fun e w' => e = .returned (.bool true) ∧ Below w.heap.size w w' := by
  have HX := Lib.hid hx
  have HLEN := Lib.hid hx.len
  have hnc := hx.cap
  have HSB := Lib.hid hs
  clear hx hs
  go_enter Try.func5, Try.ntmps5
  go_wp2_with (fail)
  refine (cutHead_any w).mono ?_
  rintro e w0 ⟨rfl, hb0⟩
  have HG0 := Lib.hid (show Grows w w0 from hb0)
  clear hb0
  have hops : Ops w0 A n c os := ⟨HX.out.len, HX.out.cap, fun i hi => by
    obtain ⟨ad, B, m, d, e, h1, h2, h3, h4⟩ := HX.out.spot i hi
    exact ⟨ad, B, m, d, e, Nat.lt_of_lt_of_le h1 HG0.out.size, (HG0.out.cell (by rw [add_block]; exact h1)).trans h2, (HG0.out.cell (by rw [add_block]; exact h1)).trans h3, h4.grow HG0.out⟩⟩
  have HOP := Lib.hid hops
  clear hops
  go_wp2_with (fail)
  refine (great_ops A n c os w0 HOP.out).mono ?_
  rintro e w0' (⟨rfl, rfl⟩ | ⟨rfl, hsm, rfl⟩)
  · go_wp2_with (fail)
    go_ret
    exact ⟨rfl, HG0.out⟩
  have HSM := Lib.hid hsm
  clear hsm
  go_wp2_with (fail)
  refine (new_cut s w0 HSB.out).mono ?_
  rintro e w1 (⟨hbad, rfl, rfl⟩ | ⟨P, rfl, hP1, hP2, rfl, hc1, hg1⟩)
  · have HBAD := Lib.hid hbad
    clear hbad
    go_wp2_with (fail)
    refine (new_ref s w1 HSB.out).mono ?_
    rintro e w2 (⟨_, rfl, rfl⟩ | ⟨P, hq, h1, h2, _⟩)
    · go_wp2_with (fail)
      go_ret
      exact ⟨rfl, HG0.out⟩
    · have := HBAD.out
      omega
  have HP := Lib.hid (And.intro hP1 hP2)
  have H1 := Lib.hid (And.intro hc1 hg1)
  clear hP1 hP2 hc1 hg1
  go_wp2_with (fail)
  refine (new_ref (P : Nat) w1 HSB.out).mono ?_
  rintro e w2 (⟨hbad, _⟩ | ⟨P', hq, _, _, rfl, hc2, hg2⟩)
  · have := HP.out
    omega
  obtain rfl : P' = P := by omega
  have H2 := Lib.hid (And.intro hc2 (And.intro hg2 (And.intro (H1.out.1.grow hg2) (Grows.trans H1.out.2 hg2))))
  have HNE := Lib.hid (show w0.heap.size ≠ w1.heap.size by have := H1.out.1.cells.lt; omega)
  clear hc2 hg2 hq
  have hn2 : n < 20000 := by have := HSM.out; omega
  go_wp2_with (fail)
  go_loopw [8] (fun vi wr => ∃ (i Z : Nat) (v : Value) (L : List UInt8), i ≤ n ∧ vi = .int .i64 (i : Nat) ∧ Hid (CutHas wr w0.heap.size w0.heap.size P' Z v L) ∧ Hid (RefHas wr w1.heap.size P' Z L) ∧ Hid (Z = opsLen (os.take i) ∨ Z ≤ opsLen (os.take i)) ∧ Hid (Below w0.heap.size w0 wr)) (fun i _ => n - (intOf i).toNat)
  case atStart => exact ⟨0, 0, _, [], Nat.zero_le _, rfl, Lib.hid H2.out.2.2.1, Lib.hid H2.out.1, Lib.hid (.inl (by simp [opsLen])), Lib.hid H2.out.2.2.2⟩
  case round =>
    obtain ⟨i, Z, v, L, hi, rfl, HC, HR, HZ, HB⟩ := hrel
    by_cases hlt : i < n
    · obtain ⟨ad, BX, m, d, rfl, hblk, c0, c1, hsl⟩ := HOP.out.spot i hlt
      have hZ : Z ≤ opsLen (os.take i) := HZ.out.elim (fun h => Nat.le_of_eq h) id
      have ho1 := opsLen_one (os := os) (i := i) (by rw [HLEN.out]; exact hlt)
      have ho2 := opsLen_take os (i + 1)
      have hml := hsl.len
      obtain ⟨o, ho⟩ : ∃ o, os.getD i (0, []) = o := ⟨_, rfl⟩
      rw [ho] at c0 hsl ho1 hml
      obtain ⟨q, y⟩ := o
      dsimp only at c0 hsl ho1 hml
      have hsm := HSM.out
      have hm2 : m ≤ 20000 := by omega
      have hZ2 : Z ≤ 20000 := by omega
      have HZN := Lib.hid (show Z ≤ opsLen (os.take (i + 1)) ∧ Z + m ≤ opsLen (os.take (i + 1)) by omega)
      have hb1 : ad.block < w0.heap.size := hblk
      have c0r : wr.cell? (ad.add (i * 2)) = some (.int .i64 q) := by rw [HB.out.cell (by rw [add_block]; exact hb1)]; exact c0
      have c1r : wr.cell? ⟨(ad.add (i * 2)).block, (ad.add (i * 2)).off + 1, none⟩ = some (.slice BX m d) := by
        rw [← add_one, add_twice, HB.out.cell (by rw [add_block]; exact hb1)]; exact c1
      have HC01 := Lib.hid (And.intro c0 (And.intro c1 hb1))
      have HSX := Lib.hid hsl
      have i0 : (0 : Int) ≤ (i : Int) := by omega
      have i1 : (i : Int) < (n : Int) := by omega
      have ii : IntKind.i64.wrap ((i : Int) + 1) = (i : Int) + 1 := (fit_sumB i 1 (i + 1) rfl (fit_i hlt (by omega))).1
      clear c0 c1 hsl ho1 ho2 hml ho hZ hsm hblk hb1
      by_cases hq : q = 3
      · subst hq
        obtain ⟨X1, dx, rfl, _⟩ := HC.out.slice
        go_wp2_with (fail)
        refine (rest_cut wr HB.out.size HC.out).mono ?_
        rintro e w3 ⟨rfl, ho3, hc3, hs3⟩
        have hr3 : RefHas w3 w1.heap.size P' Z L := (hs3.same _ (Whole.lt HR.out) (fun e => HNE.out e.symm)).trans HR.out
        have H3 := Lib.hid (And.intro ho3 (And.intro hc3 (And.intro hr3 (Below.trans HB.out (hs3.below HB.out.size (fun k hk e => by omega))))))
        clear ho3 hc3 hr3 hs3
        go_wp2_with (fail)
        refine (rest_ref w3 H3.out.2.2.1).mono ?_
        rintro e w4 ⟨A4, c4, rfl, hs4, hr4, hsp4⟩
        have hc4 : CutHas w4 w0.heap.size w0.heap.size P' Z (.slice none 0 0) [] := H3.out.2.1.keep fun k hk => by
          rcases hk with rfl | hk
          · exact hsp4.same _ H3.out.2.1.cells.lt HNE.out
          · simp [Value.ownBlock] at hk
        have hx4 := owned_same (w' := w4) H3.out.1 fun k hk => hsp4.same k (owned_lt H3.out.1 hk).2 fun e => owned_type H3.out.1 H3.out.2.2.1 (by decide) (by rw [hk, e])
        have hstr1 := run_string (Sl.owned hx4)
        have hstr2 := run_string hs4
        have HE := Lib.hid (And.intro hc4 (And.intro hr4 (And.intro (Below.trans H3.out.2.2.2 (hsp4.below H3.out.2.2.2.size (fun k hk e => by have := H1.out.2.size; omega))) (show Z = opsLen (os.take (i + 1)) ∨ Z ≤ opsLen (os.take (i + 1)) from .inr HZN.out.1))))
        clear hs4 hr4 hsp4 hc4 hx4
        go_wp2_with (fail)
        refine (size_cut w4 HE.out.1).mono ?_
        rintro e w' ⟨rfl, rfl⟩
        go_wp2_with (fail)
        refine (size_ref w4 HE.out.2.1).mono ?_
        rintro e w' ⟨rfl, rfl⟩
        go_wp2_with (fail)
        refine (left_cut w4 HE.out.1).mono ?_
        rintro e w' ⟨rfl, rfl⟩
        go_wp2_with (fail)
        refine (left_ref w4 HE.out.2.1).mono ?_
        rintro e w' ⟨rfl, rfl⟩
        go_wp2_with (fail)
        go_roundw
        case rel => exact ⟨i + 1, _, _, _, by omega, by go_num, Lib.hid HE.out.1, Lib.hid HE.out.2.1, Lib.hid HE.out.2.2.2, Lib.hid HE.out.2.2.1⟩
        case measure => simp [intOf]; omega
      · have hq' : ¬ (q = 3) := hq
        go_wp2_with (fail)
        have hfar : 0 < m → ∀ x, BX = some x → x.block < w0.heap.size := fun h0 x e => by
          obtain ⟨x', e', hb, _⟩ := HSX.out.bytes.spot (k := 0) h0
          rw [e] at e'
          injection e' with e'
          rw [e']
          exact hb
        have HFAR := Lib.hid hfar
        refine (write_lowF w0.heap.size w0.heap.size P' Z v L BX m d y wr HC.out (Nat.le_refl _) (HSX.out.grow HB.out) (fun h0 x e => ⟨by have := hfar h0 x e; omega, fun e2 => by have := (owned_lt HC.out.left e2).1; have := hfar h0 x e; omega⟩) HP.out.2 (by omega) (by omega) HB.out.size).mono ?_
        rintro e w3 ⟨A3, m3, c3, v3, hs3, rfl, hl3, hc3, hb3, hsp3, hv3⟩
        have hr3 : RefHas w3 w1.heap.size P' Z L := (hsp3.same _ (Whole.lt HR.out) (by
          rintro (e | e)
          · exact HNE.out e.symm
          · exact owned_type HC.out.left HR.out (by decide) e)).trans HR.out
        have hbb3 : Below w0.heap.size w0 w3 := Below.trans HB.out hb3
        have c1s : w3.cell? ⟨(ad.add (i * 2)).block, (ad.add (i * 2)).off + 1, none⟩ = some (.slice BX m d) := by
          rw [← add_one, add_twice, hbb3.cell (by rw [add_block]; exact HC01.out.2.2)]; exact HC01.out.2.1
        have hLlen : L.length ≤ 5000 := by have := HC.out.short; have := HP.out.2; omega
        have HVG : Hid (v.ownBlock ≠ some w1.heap.size ∧ w1.heap.size < wr.heap.size) := Lib.hid ⟨owned_type HC.out.left HR.out (by decide), Whole.lt HR.out⟩
        have H3 := Lib.hid (And.intro hl3 (And.intro hc3 (And.intro hr3 hbb3)))
        clear hl3 hc3 hr3 hbb3 hb3 hsp3 hv3 hfar c0r c1r
        go_wp2_with (fail)
        refine (write_ref w1.heap.size P' Z L BX m d y w3 H3.out.2.2.1 (HSX.out.grow H3.out.2.2.2) HP.out (by omega) (by omega) (by omega)).mono ?_
        rintro e w4 ⟨A4, c4, rfl, hr4, hh4, hsp4⟩
        have hc4 := H3.out.2.1.aloneR H3.out.2.2.1 HNE.out hsp4
        have hl4 := (H3.out.1 w4 ((KeepsF.grows (Grows.refl _)).step (fun k e => by
          subst e
          exact .inl (fun h => h.elim HVG.out.1 (fun h => by have := HVG.out.2; omega))) hsp4)).lists
        have hb4 : Below w0.heap.size w0 w4 := Below.trans H3.out.2.2.2 (hsp4.below H3.out.2.2.2.size (fun k hk e => by have := H1.out.2.size; omega))
        have hfew := pieces_few P' (L ++ y)
        have hyl := HSX.out.len
        rw [List.length_append] at hfew
        have hll := hl4.len
        have HL4 := Lib.hid (And.intro hl4 (And.intro hr4.lists (And.intro (show m3 ≤ 140737488351232 by omega) (show (piecesB P' (L ++ y)).length ≤ 140737488351232 by omega))))
        have H4 := Lib.hid (And.intro hc4 (And.intro hh4 hb4))
        clear hl4 hr4 hc4 hh4 hsp4 hb4 hfew hyl hll c1s hLlen
        obtain ⟨n4, hn4⟩ : ∃ n4, (piecesB P' (L ++ y)).length = n4 := ⟨_, rfl⟩
        rw [hn4] at HL4 ⊢
        clear hn4
        go_wp2_with (fail)
        refine (same_true HL4.out.1 HL4.out.2.1 rfl HL4.out.2.2.1 HL4.out.2.2.2).mono ?_
        rintro e w5 ⟨rfl, hg5⟩
        have HE := Lib.hid (And.intro (H4.out.1.grow hg5) (And.intro (H4.out.2.1.grow hg5) (And.intro (Below.trans H4.out.2.2 (Below.mono hg5 H4.out.2.2.size)) (show Z + m = opsLen (os.take (i + 1)) ∨ Z + m ≤ opsLen (os.take (i + 1)) from .inr HZN.out.2))))
        clear hg5
        go_wp2_with (fail)
        refine (size_cut w5 HE.out.1).mono ?_
        rintro e w' ⟨rfl, rfl⟩
        go_wp2_with (fail)
        refine (size_ref w5 HE.out.2.1).mono ?_
        rintro e w' ⟨rfl, rfl⟩
        go_wp2_with (fail)
        refine (left_cut w5 HE.out.1).mono ?_
        rintro e w' ⟨rfl, rfl⟩
        go_wp2_with (fail)
        refine (left_ref w5 HE.out.2.1).mono ?_
        rintro e w' ⟨rfl, rfl⟩
        go_wp2_with (fail)
        go_roundw
        case rel => exact ⟨i + 1, _, _, _, by omega, by go_num, Lib.hid HE.out.1, Lib.hid HE.out.2.1, Lib.hid HE.out.2.2.2, Lib.hid HE.out.2.2.1⟩
        case measure => simp [intOf]; omega
    · obtain rfl : i = n := by omega
      go_wp2_with (fail)
      go_ret
      exact ⟨rfl, Grows.trans HG0.out HB.out⟩

set_option maxRecDepth 100000 in
theorem cutPlays_lifted (os : Os) (started : os.Started) (H : Type) (enc : TypeId × Value → H) :
    ReturnsInHanded {} Try.checked os 5 .any (Rows.cutPlaysSpec.pre6 enc Try.prog Try.f5 Rows.cutPlaysRow.domain false) (Rows.cutPlaysSpec.post enc Try.prog Try.f5 false true false false) := by
  refine lift_law (C := Try.checked) H enc own started (by kernel_rfl) Try.func5
    (ChangeSpec.witness6 (enc := enc) (C := Try.checked) false ⟨#[], #[.int .i64 0, .slice none 0 0], []⟩ 16 (by kernel_rfl) (by kernel_rfl) (by kernel_rfl) (by kernel_rfl))
    laidOut (of_readable (by kernel_rfl)) rfl Try.underlying4 rfl (fun ds hd => ?_) (fun W base args ds p hval hA hsz => ?_)
  · match ds, hd with
    | [d1, d2], _ => rfl
  · rw [Try.params5] at hA hval hsz
    obtain ⟨v0, vs0, d0, ds0, p0, q0, hargs, rfl, rfl, h0, r0⟩ := trodAll_cons hA
    obtain ⟨v1, vs1, d1, ds1, p1, q1, rfl, rfl, rfl, h1, r1⟩ := trodAll_cons r0
    obtain ⟨rfl, rfl, rfl⟩ := trodAll_nil r1
    obtain rfl : args = #[v0, v1] := by cases args; simp_all
    obtain ⟨a0, rfl, _, _, w0⟩ := open_int Try.underlying3 (hval 0 3 v0 rfl rfl) h0
    have b0 := bounds_i64 w0
    obtain ⟨A1, n1, c1, xs1, rfl, hx1⟩ := open_ops (hval 1 42 v1 rfl rfl) h1
    exact cutPlays_law W a0 (by omega) A1 n1 c1 xs1 hx1

theorem cutPlays_over : Rows.cutPlaysRow.holds Try.pinned (OpenSpec.ofChange Rows.cutPlaysSpec) :=
  OpenClaim.holds_of_wide 5 Try.f5 rfl rfl rfl rfl rfl rfl rfl ⟨rfl, rfl, rfl, rfl, rfl⟩ rfl rfl rfl rfl rfl (by kernel_rfl) Try.func5 (by kernel_rfl)
    (of_decide_eq_true (by kernel_rfl)) (by unfold Func.isWrapper; first | (rw [if_pos (by decide +kernel)]; kernel_rfl) | (rw [if_neg (by decide +kernel)]; exact ⟨rfl, rfl⟩))
    (fun os started H enc _ => cutPlays_lifted os started H enc)
theorem cutPlays_holds : Rows.CutPlaysSaid := cutPlays_over
end Go.Proofs.Ytlcpbkbojjpfaaa
