/-
  RecCut holds of any record, any place and any byte: bytes of a Root that are cut, or have one more, are none; of a Piece and an Inline, cut behind what they must have, other ones; no condition.
-/
import Derived.Test.YtmfhpfehphbklaaRcHead
import Derived.Test.YtmfhpfehphbklaaRcIn
import Derived.Test.YtmfhpfehphbklaaRcPre
import Derived.ProofKit
import Derived.ChangeOld
namespace Go.Proofs.Ytmfhpfehphbklaa
open Go.ChangeShapes Go.WideShapes Go.ChangeAt Go.RowKit
set_option linter.unusedSimpArgs false
set_option linter.unusedVariables false


attribute [local irreducible] Go.wpQuiet
theorem cut_small {r : Rc} (h : RightR r) : r.b.length ≤ 8192 ∧ r.key.length ≤ 64 := by
  unfold RightR PieceOk RootOk InlineOk TombOk Bare KeyOk at h
  omega

set_option maxRecDepth 100000 in
set_option maxHeartbeats 8000000 in
theorem recCut_law {w : World} (kd : Int) (ks : List UInt8) (id no size : Int) (LA : Option Addr) (ln lc : Nat) (BA : Option Addr) (bn bc : Nat) (ls : List Lc) (bs : List UInt8) (hin : RcIn w LA ln lc BA bn bc (⟨kd, ks, id, no, size, ls, bs⟩ : Rc)) (a : Int) (ha : 0 ≤ a ∧ a ≤ 65535) (m : Int) (hm : 0 ≤ m ∧ m ≤ 255) :
    Calls Try.prog 5 #[.agg #[.int .i64 kd, .string ⟨ks.toArray⟩, .int .i64 id, .int .i64 no, .int .i64 size, .slice LA ln lc, .slice BA bn bc], .int .u16 a, .int .u8 m] w fun e w' => e = .returned (.bool true) ∧ Below w.heap.size w w' := by
  obtain ⟨mb, hmb⟩ : ∃ mb : UInt8, m = (mb.toNat : Int) := ⟨UInt8.ofNat m.toNat, by rw [UInt8.toNat_ofNat']; omega⟩
  subst hmb
  have HI := Lib.hid hin
  have HZ0 := Lib.hid (Whole.made w 25 #[.int .i64 kd, .string ⟨ks.toArray⟩, .int .i64 id, .int .i64 no, .int .i64 size, .slice LA ln lc, .slice BA bn bc])
  have HG0 := Lib.hid (grows_alloc w (.cells #[.int .i64 kd, .string ⟨ks.toArray⟩, .int .i64 id, .int .i64 no, .int .i64 size, .slice LA ln lc, .slice BA bn bc] 25))
  have hl2 := hin.sl.len
  have hcap := hin.sl.cap
  dsimp only at hl2
  clear hin
  go_enter Try.func5, Try.ntmps5
  go_wp2_with (fail)
  refine (head_any _).mono ?_
  rintro e w1 ⟨rfl, hb⟩
  have hz := Grows.whole hb HZ0.out
  have c0 := hz.cell 0
  have c1 := hz.cell 1
  have c2 := hz.cell 2
  have c3 := hz.cell 3
  have c4 := hz.cell 4
  have c5 := hz.cell 5
  have c6 := hz.cell 6
  simp only [List.getElem?_toArray, List.getElem?_cons_zero, List.getElem?_cons_succ] at c0 c1 c2 c3 c4 c5 c6
  have HZ1 := Lib.hid hz
  have HG1 := Lib.hid (Grows.trans HG0.out hb)
  clear hb hz HZ0
  go_wp2_with (fail)
  clear c0 c1 c2 c3 c4 c5 c6
  have hp := put_own (⟨kd, ks, id, no, size, ls, bs⟩ : Rc) LA ln lc BA bn bc w1 (HI.out.grow HG1.out)
  dsimp only at hp
  refine (hp).mono ?_
  rintro e w2 ⟨A3, m3, c3', rfl, ho, hb⟩
  have hz := Grows.whole hb HZ1.out
  have c0 := hz.cell 0
  have c1 := hz.cell 1
  have c2 := hz.cell 2
  have c3 := hz.cell 3
  have c4 := hz.cell 4
  have c5 := hz.cell 5
  have c6 := hz.cell 6
  simp only [List.getElem?_toArray, List.getElem?_cons_zero, List.getElem?_cons_succ] at c0 c1 c2 c3 c4 c5 c6
  have HZ2 := Lib.hid hz
  have HG2 := Lib.hid (Grows.trans HG1.out hb)
  have hm3 : m3 = (putR (⟨kd, ks, id, no, size, ls, bs⟩ : Rc)).length := by have := ho.1; simpa using this.symm
  have HS2 := Lib.hid (Sl.owned ho)
  have HM3 := Lib.hid hm3
  clear ho hm3 hp
  clear hb hz HZ1
  go_wp2_with (fail)
  clear c0 c1 c2 c3 c4 c5 c6
  refine (great_any _ _ _ _ _ _ _ _ _ _ _ _).mono ?_
  rintro e w3 ⟨⟨g, rfl⟩, hb⟩
  have hz := Grows.whole hb HZ2.out
  have c0 := hz.cell 0
  have c1 := hz.cell 1
  have c2 := hz.cell 2
  have c3 := hz.cell 3
  have c4 := hz.cell 4
  have c5 := hz.cell 5
  have c6 := hz.cell 6
  simp only [List.getElem?_toArray, List.getElem?_cons_zero, List.getElem?_cons_succ] at c0 c1 c2 c3 c4 c5 c6
  have HZ3 := Lib.hid hz
  have HG3 := Lib.hid (Grows.trans HG2.out hb)
  have HS3 := Lib.hid (HS2.out.grow hb)
  clear HS2
  clear hb hz HZ2
  cases g with
  | true =>
    go_wp2_with (fail)
    go_ret
    exact ⟨rfl, HG3.out⟩
  | false =>
    by_cases hr : RightR (⟨kd, ks, id, no, size, ls, bs⟩ : Rc)
    · have hbd := put_body hr
      have hsmall := cut_small hr
      dsimp only at hsmall
      have hcut := fun (n : Nat) (x : Rc) (h1 : n < (putR (⟨kd, ks, id, no, size, ls, bs⟩ : Rc)).length) (h2 : getR ((putR (⟨kd, ks, id, no, size, ls, bs⟩ : Rc)).take n) = some x) => get_cut hr h1 h2
      have hmore := fun (y : Rc) (h2 : getR (putR (⟨kd, ks, id, no, size, ls, bs⟩ : Rc) ++ [mb]) = some y) => get_more hr h2
      dsimp only at hcut hmore
      rw [← HM3.out] at hbd
      obtain ⟨N, hN⟩ : ∃ N : Nat, a.tmod (m3 : Int) = (N : Int) := ⟨(a.tmod (m3 : Int)).toNat, by have := Int.tmod_nonneg (m3 : Int) ha.1; omega⟩
      have hNlt : N < m3 := by have := Int.tmod_lt_of_pos a (show (0 : Int) < m3 by omega); omega
      have hne : ((m3 : Int) == 0) = false := by simp; omega
      have hne2 : ¬ (m3 : Int) = 0 := by omega
      have n0 : (0 : Int) ≤ (N : Int) := by omega
      have hcap3 := HS3.out.cap
      have n1 : (N : Int) ≤ (c3' : Int) := by omega
      have n2 : N ≤ c3' := by omega
      have HCUT := Lib.hid hcut
      have HMORE := Lib.hid hmore
      clear hcut hmore hr
      obtain ⟨P, hP⟩ : ∃ P, putR (⟨kd, ks, id, no, size, ls, bs⟩ : Rc) = P := ⟨_, rfl⟩
      rw [hP] at HS3 HCUT HMORE HM3
      clear hP
      go_wp2_with (fail)
      have hq := get_any A3 N c3' (P.take N) w3 (HS3.out.first (by omega)) (by omega)
      have hfx : (getR (P.take N)).isSome = true → ((getR (P.take N)).getD Rc.none).kind = kd ∧ kd ≠ 2 ∧ (kd ≠ 4 → ((getR (P.take N)).getD Rc.none).key = ks ∧ ((getR (P.take N)).getD Rc.none).id = id ∧ ((getR (P.take N)).getD Rc.none).no = no ∧ ((getR (P.take N)).getD Rc.none).b.length ≤ bs.length ∧ bs.take ((getR (P.take N)).getD Rc.none).b.length = ((getR (P.take N)).getD Rc.none).b) := by
        cases hgx : getR (P.take N) with
        | none => intro h; cases h
        | some x => intro _; exact HCUT.out N x (by have := HM3.out; omega) hgx
      generalize (getR (P.take N)).getD Rc.none = x at *
      generalize (getR (P.take N)).isSome = xi at *
      refine hq.mono ?_
      rintro e w4 ⟨LX, lxn, lxc, BX, bxn, bxc, rfl, hx, hb4⟩
      have hxl := hx.inn.sl.len
      have k4 := grows_alloc w4 (.cells #[.int .i64 x.kind, .string ⟨x.key.toArray⟩, .int .i64 x.id, .int .i64 x.no, .int .i64 x.size, .slice LX lxn lxc, .slice BX bxn bxc] 25)
      obtain ⟨V4, hV4⟩ : ∃ V, w4.alloc (.cells #[.int .i64 x.kind, .string ⟨x.key.toArray⟩, .int .i64 x.id, .int .i64 x.no, .int .i64 x.size, .slice LX lxn lxc, .slice BX bxn bxc] 25) = V := ⟨_, rfl⟩
      have HX4 := Lib.hid (hx.inn.grow k4)
      have HBX := Lib.hid (Whole.made w4 25 #[.int .i64 x.kind, .string ⟨x.key.toArray⟩, .int .i64 x.id, .int .i64 x.no, .int .i64 x.size, .slice LX lxn lxc, .slice BX bxn bxc])
      have HG4 := Lib.hid (Grows.trans HG3.out (Grows.trans hb4 k4))
      have HZ4 := Lib.hid ((Grows.trans hb4 k4).whole HZ3.out)
      have HS4 := Lib.hid (HS3.out.grow (Grows.trans hb4 k4))
      rw [hV4] at HX4 HBX HG4 HZ4 HS4
      have HFX := Lib.hid hfx
      have HXL := Lib.hid hxl
      have HCX := Lib.hid hx.inn.sl.cap
      clear hq hfx hxl hx hb4 k4 c0 c1 c2 c3 c4 c5 c6 HS3 HZ3 HG3 HCUT n0 n1 n2 hN hcap3
      go_wp2_with (first
        | (at_builtin
           refine list_app isSl_bytes isSl_bytes rfl (.tmp 40) (.tmp 42) rfl (base := V4.heap.size) rfl (owned_grow HO5.out (grows_alloc _ _)) (A := some ⟨w5.heap.size, 0, none⟩) (m := 1) (c := 1) rfl (Whole.sl (Whole.made w5 _ _) [mb] rfl rfl) (m3 + 1) rfl (by omega) (by have := HB5.out.size; have := grows_alloc V4 (.cells #[] 5) |>.size; simp; omega) ?_
           intro A6 c6 w6 ho6 hb6 hs6
           have HO6 := Lib.hid ho6
           have HG6 := Lib.hid (show Grows V4 w6 from Below.trans (Below.trans (Below.trans (grows_alloc _ _) HB5.out) (Below.mono (grows_alloc _ _) (Nat.le_trans (grows_alloc V4 (.cells #[] 5)).size HB5.out.size))) hb6)
           clear ho6 hb6 hs6)
        | (at_builtin
           refine list_app isSl_bytes isSl_bytes rfl (.tmp 38) (.tmp 39) rfl (base := V4.heap.size) rfl (owned_none V4) rfl (HS4.out.alloc _) m3 (Nat.zero_add m3) (by omega) (le_alloc _ _) ?_
           intro A5 c5 w5 ho5 hb5 hs5
           have HO5 := Lib.hid ho5
           have HB5 := Lib.hid hb5
           clear ho5 hb5 hs5))
      have hs6 : Sl w6 A6 (m3 + 1) c6 (P ++ [mb]) := by have := Sl.owned HO6.out; simpa using this
      have hq := get_any A6 (m3 + 1) c6 (P ++ [mb]) w6 hs6 (by omega)
      have hfy : (getR (P ++ [mb])).isSome = true → ((getR (P ++ [mb])).getD Rc.none).kind = kd ∧ kd ≠ 2 ∧ ((getR (P ++ [mb])).getD Rc.none).b.length + ((getR (P ++ [mb])).getD Rc.none).key.length = bs.length + ks.length + 1 := by
        cases hgy : getR (P ++ [mb]) with
        | none => intro h; cases h
        | some y => intro _; exact HMORE.out y hgy
      generalize (getR (P ++ [mb])).getD Rc.none = y at *
      generalize (getR (P ++ [mb])).isSome = yi at *
      refine hq.mono ?_
      rintro e w7 ⟨LY, lyn, lyc, BY, byn, byc, rfl, hy, hb7⟩
      have hyl := hy.inn.sl.len
      have k7 := grows_alloc w7 (.cells #[.int .i64 y.kind, .string ⟨y.key.toArray⟩, .int .i64 y.id, .int .i64 y.no, .int .i64 y.size, .slice LY lyn lyc, .slice BY byn byc] 25)
      obtain ⟨V7, hV7⟩ : ∃ V, w7.alloc (.cells #[.int .i64 y.kind, .string ⟨y.key.toArray⟩, .int .i64 y.id, .int .i64 y.no, .int .i64 y.size, .slice LY lyn lyc, .slice BY byn byc] 25) = V := ⟨_, rfl⟩
      have gv := Grows.trans HG6.out (Grows.trans hb7 k7)
      have HX7 := Lib.hid (HX4.out.grow gv)
      have HBX7 := Lib.hid (gv.whole HBX.out)
      have HBY7 := Lib.hid (Whole.made w7 25 #[.int .i64 y.kind, .string ⟨y.key.toArray⟩, .int .i64 y.id, .int .i64 y.no, .int .i64 y.size, .slice LY lyn lyc, .slice BY byn byc])
      have HG7 := Lib.hid (Grows.trans HG4.out gv)
      have HZ7 := Lib.hid (gv.whole HZ4.out)
      rw [hV7] at HX7 HBX7 HBY7 HG7 HZ7
      clear hq hy hb7 k7 gv hs6 HX4 HBX HG4 HZ4 HS4 HG6 HO6 HMORE
      have hz := HZ7.out
      have c0 := hz.cell 0
      have c1 := hz.cell 1
      have c2 := hz.cell 2
      have c3 := hz.cell 3
      have c4 := hz.cell 4
      have c5 := hz.cell 5
      have c6 := hz.cell 6
      simp only [List.getElem?_toArray, List.getElem?_cons_zero, List.getElem?_cons_succ] at c0 c1 c2 c3 c4 c5 c6
      clear hz
      by_cases hk2 : kd = 2
      · have hxi : xi = false := by
          cases xi with
          | false => rfl
          | true => exact absurd hk2 (HFX.out rfl).2.1
        have hyi : yi = false := by
          cases yi with
          | false => rfl
          | true => exact absurd hk2 (hfy rfl).2.1
        subst hk2 hxi hyi
        clear hfy hyl
        go_wp2_with (fail)
        go_ret
        exact ⟨rfl, HG7.out⟩
      · have hk2' : (kd == 2) = false := by simpa using hk2
        have HFY := Lib.hid (And.intro hfy hyl)
        clear hfy hyl
        go_wp2_with (fail)
        have cc0 : ∀ w', Grows V7 w' → w'.cell? ⟨w.heap.size, 0, none⟩ = some (.int .i64 kd) := fun w' hg => (hg.whole HZ7.out).cell 0
        have cc1 : ∀ w', Grows V7 w' → w'.cell? ⟨w.heap.size, 1, none⟩ = some (.string ⟨ks.toArray⟩) := fun w' hg => (hg.whole HZ7.out).cell 1
        have cc2 : ∀ w', Grows V7 w' → w'.cell? ⟨w.heap.size, 2, none⟩ = some (.int .i64 id) := fun w' hg => (hg.whole HZ7.out).cell 2
        have cc3 : ∀ w', Grows V7 w' → w'.cell? ⟨w.heap.size, 3, none⟩ = some (.int .i64 no) := fun w' hg => (hg.whole HZ7.out).cell 3
        have cc6 : ∀ w', Grows V7 w' → w'.cell? ⟨w.heap.size, 6, none⟩ = some (.slice BA bn bc) := fun w' hg => (hg.whole HZ7.out).cell 6
        have xc0 : ∀ w', Grows V7 w' → w'.cell? ⟨w4.heap.size, 0, none⟩ = some (.int .i64 x.kind) := fun w' hg => (hg.whole HBX7.out).cell 0
        have xc1 : ∀ w', Grows V7 w' → w'.cell? ⟨w4.heap.size, 1, none⟩ = some (.string ⟨x.key.toArray⟩) := fun w' hg => (hg.whole HBX7.out).cell 1
        have xc2 : ∀ w', Grows V7 w' → w'.cell? ⟨w4.heap.size, 2, none⟩ = some (.int .i64 x.id) := fun w' hg => (hg.whole HBX7.out).cell 2
        have xc3 : ∀ w', Grows V7 w' → w'.cell? ⟨w4.heap.size, 3, none⟩ = some (.int .i64 x.no) := fun w' hg => (hg.whole HBX7.out).cell 3
        have xc6 : ∀ w', Grows V7 w' → w'.cell? ⟨w4.heap.size, 6, none⟩ = some (.slice BX bxn bxc) := fun w' hg => (hg.whole HBX7.out).cell 6
        clear c0 c1 c2 c3 c4 c5 c6
        cases xi with
        | false =>
          clear cc1 cc2 cc3 cc6 xc1 xc2 xc3 xc6
          try rw [hV7]
          refine q_region (by kernel_rfl) (by kernel_rfl) ?_
          iterate 2 (refine q_op' (v := ?_) (a' := ?_) (by rfl) ?_ ?_ ?_
                     rotate_left 2
                     · intro w' hC
                       go_simp
                       try with_reducible rfl
                     · simp only [Act.put, List.setIfInBounds_toArray, List.set_cons_zero, List.set_cons_succ]
                       try rfl)
          iterate 44 (refine q_skip' (a' := ?_) (by rfl) ?_ ?_
                      rotate_left 1
                      · simp only [Act.put, List.setIfInBounds_toArray, List.set_cons_zero, List.set_cons_succ]
                        try rfl)
          iterate 1 (refine q_op' (v := ?_) (a' := ?_) (by rfl) ?_ ?_ ?_
                     rotate_left 2
                     · intro w' hC
                       go_simp
                       try with_reducible rfl
                     · simp only [Act.put, List.setIfInBounds_toArray, List.set_cons_zero, List.set_cons_succ]
                       try rfl)
          refine wpQuiet_nil ?_
          intro w8 hC
          have HG8 := Lib.hid (Grows.trans HG7.out hC)
          have hz := Grows.whole hC HZ7.out
          have c0 := hz.cell 0
          have c1 := hz.cell 1
          have c2 := hz.cell 2
          have c3 := hz.cell 3
          have c4 := hz.cell 4
          have c5 := hz.cell 5
          have c6 := hz.cell 6
          simp only [List.getElem?_toArray, List.getElem?_cons_zero, List.getElem?_cons_succ] at c0 c1 c2 c3 c4 c5 c6
          have hyb := Grows.whole hC HBY7.out
          have y0 := hyb.cell 0
          have y1 := hyb.cell 1
          have y2 := hyb.cell 2
          have y3 := hyb.cell 3
          have y4 := hyb.cell 4
          have y5 := hyb.cell 5
          have y6 := hyb.cell 6
          simp only [List.getElem?_toArray, List.getElem?_cons_zero, List.getElem?_cons_succ] at y0 y1 y2 y3 y4 y5 y6
          clear hz hyb hC
          clear cc0 xc0
          cases yi with
          | false =>
            go_wp2_with (fail)
            go_ret
            exact ⟨rfl, HG8.out⟩
          | true =>
            obtain ⟨g1, _, g3⟩ := HFY.out.1 rfl
            have g4 := HFY.out.2
            have s1 := str_size y.key
            have s2 := str_size ks
            have e1 : IntKind.i64.wrap ((byn : Int) + (y.key.length : Int)) = (byn : Int) + (y.key.length : Int) := IntWalk.i64_in _ ⟨by omega, by omega⟩
            have e2 : IntKind.i64.wrap ((bn : Int) + (ks.length : Int)) = (bn : Int) + (ks.length : Int) := IntWalk.i64_in _ ⟨by omega, by omega⟩
            have e3 : IntKind.i64.wrap ((bn : Int) + (ks.length : Int) + 1) = (bn : Int) + (ks.length : Int) + 1 := IntWalk.i64_in _ ⟨by omega, by omega⟩
            have e4 := IntWalk.i64_left ((byn : Int) + (y.key.length : Int)) ▸ e1
            have e5 := IntWalk.i64_left ((bn : Int) + (ks.length : Int)) ▸ e2
            have e6 := IntWalk.i64_left ((bn : Int) + (ks.length : Int) + 1) ▸ e3
            have hq : ((byn : Int) + (y.key.length : Int) == (bn : Int) + (ks.length : Int) + 1) = true := by rw [beq_iff_eq]; omega
            clear g3 g4
            go_wp2_with (fail)
            go_ret
            exact ⟨rfl, HG8.out⟩

        | true =>
          obtain ⟨f1, _, f2⟩ := HFX.out rfl
          by_cases hk4 : kd = 4
          · subst hk4
            clear f2 cc1 cc2 cc3 cc6 xc1 xc2 xc3 xc6
            try rw [hV7]
            refine q_region (by kernel_rfl) (by kernel_rfl) ?_
            iterate 12 (refine q_op' (v := ?_) (a' := ?_) (by rfl) ?_ ?_ ?_
                        rotate_left 2
                        · intro w' hC
                          go_simp
                          try with_reducible rfl
                        · simp only [Act.put, List.setIfInBounds_toArray, List.set_cons_zero, List.set_cons_succ]
                          try rfl)
            iterate 32 (refine q_skip' (a' := ?_) (by rfl) ?_ ?_
                        rotate_left 1
                        · simp only [Act.put, List.setIfInBounds_toArray, List.set_cons_zero, List.set_cons_succ]
                          try rfl)
            iterate 3 (refine q_op' (v := ?_) (a' := ?_) (by rfl) ?_ ?_ ?_
                       rotate_left 2
                       · intro w' hC
                         go_simp
                         try with_reducible rfl
                       · simp only [Act.put, List.setIfInBounds_toArray, List.set_cons_zero, List.set_cons_succ]
                         try rfl)
            refine wpQuiet_nil ?_
            intro w8 hC
            have HG8 := Lib.hid (Grows.trans HG7.out hC)
            have hz := Grows.whole hC HZ7.out
            have c0 := hz.cell 0
            have c1 := hz.cell 1
            have c2 := hz.cell 2
            have c3 := hz.cell 3
            have c4 := hz.cell 4
            have c5 := hz.cell 5
            have c6 := hz.cell 6
            simp only [List.getElem?_toArray, List.getElem?_cons_zero, List.getElem?_cons_succ] at c0 c1 c2 c3 c4 c5 c6
            have hyb := Grows.whole hC HBY7.out
            have y0 := hyb.cell 0
            have y1 := hyb.cell 1
            have y2 := hyb.cell 2
            have y3 := hyb.cell 3
            have y4 := hyb.cell 4
            have y5 := hyb.cell 5
            have y6 := hyb.cell 6
            simp only [List.getElem?_toArray, List.getElem?_cons_zero, List.getElem?_cons_succ] at y0 y1 y2 y3 y4 y5 y6
            clear hz hyb hC
            clear cc0 xc0
            cases yi with
            | false =>
              go_wp2_with (fail)
              go_ret
              exact ⟨rfl, HG8.out⟩
            | true =>
              obtain ⟨g1, _, g3⟩ := HFY.out.1 rfl
              have g4 := HFY.out.2
              have s1 := str_size y.key
              have s2 := str_size ks
              have e1 : IntKind.i64.wrap ((byn : Int) + (y.key.length : Int)) = (byn : Int) + (y.key.length : Int) := IntWalk.i64_in _ ⟨by omega, by omega⟩
              have e2 : IntKind.i64.wrap ((bn : Int) + (ks.length : Int)) = (bn : Int) + (ks.length : Int) := IntWalk.i64_in _ ⟨by omega, by omega⟩
              have e3 : IntKind.i64.wrap ((bn : Int) + (ks.length : Int) + 1) = (bn : Int) + (ks.length : Int) + 1 := IntWalk.i64_in _ ⟨by omega, by omega⟩
              have e4 := IntWalk.i64_left ((byn : Int) + (y.key.length : Int)) ▸ e1
              have e5 := IntWalk.i64_left ((bn : Int) + (ks.length : Int)) ▸ e2
              have e6 := IntWalk.i64_left ((bn : Int) + (ks.length : Int) + 1) ▸ e3
              have hq : ((byn : Int) + (y.key.length : Int) == (bn : Int) + (ks.length : Int) + 1) = true := by rw [beq_iff_eq]; omega
              clear g3 g4
              go_wp2_with (fail)
              go_ret
              exact ⟨rfl, HG8.out⟩

          · obtain ⟨f3, f4, f5, f6, f7⟩ := f2 hk4
            have hk4' : (kd != 4) = true := by simpa [bne] using hk4
            have hxl := HXL.out
            have b0 : (0 : Int) ≤ (bxn : Int) := by omega
            have b1 : (bxn : Int) ≤ (bc : Int) := by omega
            have b2 : bxn ≤ bc := by omega
            have hs1 := fun (w' : World) (hg : Grows V7 w') => run_string (HX7.out.sl.grow hg)
            have hs2 : ∀ w', Grows V7 w' → (convert 23 9 (.slice BA bxn bc)).run Try.prog w' = .ok (.string ⟨x.b.toArray⟩) w' := fun w' hg => by
              have h := run_string (((HI.out.grow (Grows.trans HG7.out hg)).sl).first (k := bxn) (by omega))
              dsimp only at h
              rw [← hxl, f7] at h
              rw [← hxl]
              exact h
            clear f6 f7 hxl hk4
            try rw [hV7]
            refine q_region (by kernel_rfl) (by kernel_rfl) ?_
            iterate 47 (refine q_op' (v := ?_) (a' := ?_) (by rfl) ?_ ?_ ?_
                        rotate_left 2
                        · intro w' hC
                          go_simp
                          try with_reducible rfl
                        · simp only [Act.put, List.setIfInBounds_toArray, List.set_cons_zero, List.set_cons_succ]
                          try rfl)
            refine wpQuiet_nil ?_
            intro w8 hC
            have HG8 := Lib.hid (Grows.trans HG7.out hC)
            have hz := Grows.whole hC HZ7.out
            have c0 := hz.cell 0
            have c1 := hz.cell 1
            have c2 := hz.cell 2
            have c3 := hz.cell 3
            have c4 := hz.cell 4
            have c5 := hz.cell 5
            have c6 := hz.cell 6
            simp only [List.getElem?_toArray, List.getElem?_cons_zero, List.getElem?_cons_succ] at c0 c1 c2 c3 c4 c5 c6
            have hyb := Grows.whole hC HBY7.out
            have y0 := hyb.cell 0
            have y1 := hyb.cell 1
            have y2 := hyb.cell 2
            have y3 := hyb.cell 3
            have y4 := hyb.cell 4
            have y5 := hyb.cell 5
            have y6 := hyb.cell 6
            simp only [List.getElem?_toArray, List.getElem?_cons_zero, List.getElem?_cons_succ] at y0 y1 y2 y3 y4 y5 y6
            clear hz hyb hC
            clear cc0 xc0
            cases yi with
            | false =>
              go_wp2_with (fail)
              go_ret
              exact ⟨rfl, HG8.out⟩
            | true =>
              obtain ⟨g1, _, g3⟩ := HFY.out.1 rfl
              have g4 := HFY.out.2
              have s1 := str_size y.key
              have s2 := str_size ks
              have e1 : IntKind.i64.wrap ((byn : Int) + (y.key.length : Int)) = (byn : Int) + (y.key.length : Int) := IntWalk.i64_in _ ⟨by omega, by omega⟩
              have e2 : IntKind.i64.wrap ((bn : Int) + (ks.length : Int)) = (bn : Int) + (ks.length : Int) := IntWalk.i64_in _ ⟨by omega, by omega⟩
              have e3 : IntKind.i64.wrap ((bn : Int) + (ks.length : Int) + 1) = (bn : Int) + (ks.length : Int) + 1 := IntWalk.i64_in _ ⟨by omega, by omega⟩
              have e4 := IntWalk.i64_left ((byn : Int) + (y.key.length : Int)) ▸ e1
              have e5 := IntWalk.i64_left ((bn : Int) + (ks.length : Int)) ▸ e2
              have e6 := IntWalk.i64_left ((bn : Int) + (ks.length : Int) + 1) ▸ e3
              have hq : ((byn : Int) + (y.key.length : Int) == (bn : Int) + (ks.length : Int) + 1) = true := by rw [beq_iff_eq]; omega
              clear g3 g4
              go_wp2_with (fail)
              go_ret
              exact ⟨rfl, HG8.out⟩
    · have hm : m3 = 0 := by rw [HM3.out]; exact put_empty.2 hr
      subst hm
      go_wp2_with (fail)
      go_ret
      exact ⟨rfl, HG3.out⟩

set_option maxRecDepth 100000 in
theorem recCut_lifted (os : Os) (started : os.Started) (H : Type) (enc : TypeId × Value → H) :
    ReturnsInHanded {} Try.checked os 5 .any (Rows.recCutSpec.pre6 enc Try.prog Try.f5 Rows.recCutRow.domain false) (Rows.recCutSpec.post enc Try.prog Try.f5 false true false false) := by
  refine lift_law (C := Try.checked) H enc own started (by kernel_rfl) Try.func5
    (ChangeSpec.witness6 (enc := enc) (C := Try.checked) false ⟨#[], #[.agg #[.int .i64 0, .string ⟨#[]⟩, .int .i64 0, .int .i64 0, .int .i64 0, .slice none 0 0, .slice none 0 0], .int .u16 0, .int .u8 0], []⟩ 16 (by kernel_rfl) (by kernel_rfl) (by kernel_rfl) (by kernel_rfl))
    laidOut (of_readable (by kernel_rfl)) rfl Try.underlying4 rfl (fun ds hd => ?_) (fun W base args ds p hval hA hsz => ?_)
  · match ds, hd with
    | [d1, d2, d3], _ => rfl
  · rw [Try.params5] at hA hval hsz
    obtain ⟨v0, vs0, d0, ds0, p0, q0, hargs, rfl, rfl, h0, r0⟩ := trodAll_cons hA
    obtain ⟨v1, vs1, d1, ds1, p1, q1, rfl, rfl, rfl, h1, r1⟩ := trodAll_cons r0
    obtain ⟨v2, vs2, d2, ds2, p2, q2, rfl, rfl, rfl, h2, r2⟩ := trodAll_cons r1
    obtain ⟨rfl, rfl, rfl⟩ := trodAll_nil r2
    obtain rfl : args = #[v0, v1, v2] := by cases args; simp_all
    obtain ⟨x0, LA0, ln0, lc0, BA0, bn0, bc0, rfl, hx0⟩ := open_rec (hval 0 25 v0 rfl rfl) h0
    obtain ⟨kd0, ks0, id0, no0, size0, ls0, bs0⟩ := x0
    obtain ⟨a1, rfl, _, _, w1⟩ := open_int Try.underlying35 (hval 1 35 v1 rfl rfl) h1
    have b1 := bounds_u16 w1
    obtain ⟨a2, rfl, _, _, w2⟩ := open_int Try.underlying5 (hval 2 5 v2 rfl rfl) h2
    have b2 := bounds_u8 w2
    exact recCut_law kd0 ks0 id0 no0 size0 LA0 ln0 lc0 BA0 bn0 bc0 ls0 bs0 hx0 a1 b1 a2 b2

theorem recCut_over : Rows.recCutRow.holds Try.pinned (OpenSpec.ofChange Rows.recCutSpec) :=
  OpenClaim.holds_of_wide 5 Try.f5 rfl rfl rfl rfl rfl rfl rfl ⟨rfl, rfl, rfl, rfl, rfl⟩ rfl rfl rfl rfl rfl (by kernel_rfl) Try.func5 (by kernel_rfl)
    (of_decide_eq_true (by kernel_rfl)) (by unfold Func.isWrapper; first | (rw [if_pos (by decide +kernel)]; kernel_rfl) | (rw [if_neg (by decide +kernel)]; exact ⟨rfl, rfl⟩))
    (fun os started H enc _ => recCut_lifted os started H enc)
theorem recCut_holds : Rows.RecCutSaid := recCut_over
end Go.Proofs.Ytmfhpfehphbklaa
