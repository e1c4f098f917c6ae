/-
  The walks of rec's putRoot.
-/
import Derived.Test.YtmfhpfehphbklaaRcPut
import Derived.Test.YtmfhpfehphbklaaRcRight
namespace Go.Proofs.Ytmfhpfehphbklaa
open Go.RowKit
set_option linter.unusedSimpArgs false


set_option maxRecDepth 100000 in
set_option maxHeartbeats 8000000 in
theorem putRoot_own (base : Nat) (A0 : Option Addr) (n0 c0 : Nat) (xs ks : List UInt8) (kd id no size : Int) (LA : Option Addr) (ln lc : Nat) (BA : Option Addr) (bn bc : Nat) (w : World) (ho : w.ownsRow base 5 1 (.slice A0 n0 c0) n0 (xs.map byteV)) (hb : base ≤ w.heap.size) (hn : n0 ≤ 1000) (hk : ks.length ≤ 64) (ls : List Lc) (wB : World) (hL : Locs wB LA ln lc ls) (hgB : Grows wB w) (hbB : wB.heap.size ≤ base) (hln : ln ≤ 512) :
    Calls Try.prog 72 #[.agg #[.int .i64 kd, .string ⟨ks.toArray⟩, .int .i64 id, .int .i64 no, .int .i64 size, .slice LA ln lc, .slice BA bn bc], .slice A0 n0 c0] w fun e w' => ∃ A' c', e = .returned (.slice A' (n0 + 1 + ks.length + 6 + 3 + 2 + 10 * ln) c') ∧ w'.ownsRow base 5 1 (.slice A' (n0 + 1 + ks.length + 6 + 3 + 2 + 10 * ln) c') (n0 + 1 + ks.length + 6 + 3 + 2 + 10 * ln) ((xs ++ keyP ks ++ numB id 6 ++ numB size 3 ++ numB ln 2 ++ locsB ls).map byteV) ∧ Below base w w' := by
  have hlen := hL.len
  go_enter Try.func72, Try.ntmps72
  go_wp2_with (fail)
  obtain ⟨W0, hW0⟩ : ∃ W0, w.alloc (.cells #[.int .i64 kd, .string ⟨ks.toArray⟩, .int .i64 id, .int .i64 no, .int .i64 size, .slice LA ln lc, .slice BA bn bc] 78) = W0 := ⟨_, rfl⟩
  have hg0 : Grows w W0 := hW0 ▸ grows_alloc _ _
  have hw0 : Whole W0 w.heap.size 78 #[.int .i64 kd, .string ⟨ks.toArray⟩, .int .i64 id, .int .i64 no, .int .i64 size, .slice LA ln lc, .slice BA bn bc] := by rw [← hW0]; exact Whole.made _ _ _
  have hc1 : ∀ w', Whole w' w.heap.size 78 #[.int .i64 kd, .string ⟨ks.toArray⟩, .int .i64 id, .int .i64 no, .int .i64 size, .slice LA ln lc, .slice BA bn bc] → w'.cell? ⟨w.heap.size, 1, none⟩ = some (.string ⟨ks.toArray⟩) := fun w' h => h.cell 1
  have hc2 : ∀ w', Whole w' w.heap.size 78 #[.int .i64 kd, .string ⟨ks.toArray⟩, .int .i64 id, .int .i64 no, .int .i64 size, .slice LA ln lc, .slice BA bn bc] → w'.cell? ⟨w.heap.size, 2, none⟩ = some (.int .i64 id) := fun w' h => h.cell 2
  have hc3 : ∀ w', Whole w' w.heap.size 78 #[.int .i64 kd, .string ⟨ks.toArray⟩, .int .i64 id, .int .i64 no, .int .i64 size, .slice LA ln lc, .slice BA bn bc] → w'.cell? ⟨w.heap.size, 3, none⟩ = some (.int .i64 no) := fun w' h => h.cell 3
  have hc4 : ∀ w', Whole w' w.heap.size 78 #[.int .i64 kd, .string ⟨ks.toArray⟩, .int .i64 id, .int .i64 no, .int .i64 size, .slice LA ln lc, .slice BA bn bc] → w'.cell? ⟨w.heap.size, 4, none⟩ = some (.int .i64 size) := fun w' h => h.cell 4
  have hc5 : ∀ w', Whole w' w.heap.size 78 #[.int .i64 kd, .string ⟨ks.toArray⟩, .int .i64 id, .int .i64 no, .int .i64 size, .slice LA ln lc, .slice BA bn bc] → w'.cell? ⟨w.heap.size, 5, none⟩ = some (.slice LA ln lc) := fun w' h => h.cell 5
  have hc6 : ∀ w', Whole w' w.heap.size 78 #[.int .i64 kd, .string ⟨ks.toArray⟩, .int .i64 id, .int .i64 no, .int .i64 size, .slice LA ln lc, .slice BA bn bc] → w'.cell? ⟨w.heap.size, 6, none⟩ = some (.slice BA bn bc) := fun w' h => h.cell 6
  have HO := Lib.hid (owned_grow ho (Grows.trans hg0 (kept_start W0)))
  have HG := Lib.hid (show Below base w W0.drew from Below.mono (Grows.trans hg0 (kept_start W0)) hb)
  have hsz : base ≤ W0.drew.heap.size := Nat.le_trans hb (Grows.trans hg0 (kept_start W0)).size
  have HSZ := Lib.hid hsz
  rw [hW0]
  have hw0' : Whole W0.drew w.heap.size 78 #[.int .i64 kd, .string ⟨ks.toArray⟩, .int .i64 id, .int .i64 no, .int .i64 size, .slice LA ln lc, .slice BA bn bc] := hw0
  clear ho hg0 hsz hW0
  go_region_held3 (fun w' => Whole w' w.heap.size 78 #[.int .i64 kd, .string ⟨ks.toArray⟩, .int .i64 id, .int .i64 no, .int .i64 size, .slice LA ln lc, .slice BA bn bc]) (with_reducible first | assumption) (first
    | (go_at_call 91
       refine (number_own base A3 (n0 + 1 + ks.length + 6 + 3) c3 _ (ln : Int) 2 _ HO3.out (Nat.le_trans hb HB3.out.size) (by omega) (by omega)).mono ?_
       rintro e w4 ⟨A4, c4, rfl, ho4, hb4, hs4⟩
       have hk4 := hs4 _ _ _ (by decide) (by assumption : Whole _ w.heap.size 78 #[.int .i64 kd, .string ⟨ks.toArray⟩, .int .i64 id, .int .i64 no, .int .i64 size, .slice LA ln lc, .slice BA bn bc])
       have HO4 := Lib.hid ho4
       have HB4 := Lib.hid (Below.trans HB3.out hb4)
       clear ho4 hb4 hs4)
    | (go_at_call 91
       refine (number_own base A2 (n0 + 1 + ks.length + 6) c2 _ size 3 _ HO2.out (Nat.le_trans hb HB2.out.size) (by omega) (by omega)).mono ?_
       rintro e w3 ⟨A3, c3, rfl, ho3, hb3, hs3⟩
       have hk3 := hs3 _ _ _ (by decide) (by assumption : Whole _ w.heap.size 78 #[.int .i64 kd, .string ⟨ks.toArray⟩, .int .i64 id, .int .i64 no, .int .i64 size, .slice LA ln lc, .slice BA bn bc])
       have HO3 := Lib.hid ho3
       have HB3 := Lib.hid (Below.trans HB2.out hb3)
       clear ho3 hb3 hs3)
    | (go_at_call 91
       refine (number_own base A1 (n0 + 1 + ks.length) c1 _ id 6 _ HO1.out (Nat.le_trans hb HB1.out.size) (by omega) (by omega)).mono ?_
       rintro e w2 ⟨A2, c2, rfl, ho2, hb2, hs2⟩
       have hk2 := hs2 _ _ _ (by decide) (by assumption : Whole _ w.heap.size 78 #[.int .i64 kd, .string ⟨ks.toArray⟩, .int .i64 id, .int .i64 no, .int .i64 size, .slice LA ln lc, .slice BA bn bc])
       have HO2 := Lib.hid ho2
       have HB2 := Lib.hid (Below.trans HB1.out hb2)
       clear ho2 hb2 hs2)
    | (go_at_call 96
       refine (keyPut_own base A0 n0 c0 xs ks _ HO.out HSZ.out (by omega) hk).mono ?_
       rintro e w1 ⟨A1, c1, rfl, ho1, hb1, hs1⟩
       have hk1 := hs1 _ _ _ (by decide) (by assumption : Whole _ w.heap.size 78 #[.int .i64 kd, .string ⟨ks.toArray⟩, .int .i64 id, .int .i64 no, .int .i64 size, .slice LA ln lc, .slice BA bn bc])
       have HO1 := Lib.hid ho1
       have HB1 := Lib.hid (Below.trans HG.out hb1)
       clear ho1 hb1 hs1))
  have m5 := hc5 _ hk4
  obtain ⟨P, hP⟩ : ∃ P, xs ++ keyP ks ++ numB id 6 ++ numB size 3 ++ numB ln 2 = P := ⟨_, rfl⟩
  have HO4' := HO4.out
  rw [hP] at HO4'
  obtain ⟨N, hN⟩ : ∃ N, n0 + 1 + ks.length + 6 + 3 + 2 = N := ⟨_, rfl⟩
  have HNN := Lib.hid hN
  have HPP := Lib.hid hP
  have HO5 := Lib.hid HO4'
  have hN2 : N ≤ 2000 := by omega
  have HK4 := Lib.hid hk4
  have HLL := Lib.hid hL
  clear HO4' hk4 hk3 hk2 hk1 HO4 HO3 HO2 HO1 hw0 hw0' hc1 hc2 hc3 hc4 hc6 hc5 hP hN hL
  go_wp2_with (fail)
  go_loopw [1, 24] (fun m i wr => ∃ (A : Option Addr) (c k n : Nat), k ≤ ln ∧ i = .int .i64 (k : Nat) ∧ m = .slice A n c ∧ Hid (n = N + 10 * k) ∧ Hid (wr.ownsRow base 5 1 (.slice A n c) n ((P ++ locsB (ls.take k)).map byteV)) ∧ Hid (Below base w wr)) (fun _ i _ => ln - (intOf i).toNat)
  case atStart => exact ⟨A4, c4, 0, n0 + 1 + ks.length + 6 + 3 + 2, by omega, rfl, rfl, Lib.hid (by have := HNN.out; omega), Lib.hid (by simpa [locsB] using HO5.out), HB4⟩
  case round =>
    obtain ⟨A, c, k, n, hk, rfl, rfl, HN, HR, HB⟩ := hrel
    by_cases hlt : k < ln
    · obtain ⟨ad, rfl, p0, p1, p2⟩ := HLL.out.spot hlt
      have hgw : Grows wB wr := still hgB hbB HB.out
      have hn3 : n ≤ 10000 := by have := HN.out; omega
      have hnx := take_lc ls k (by omega)
      have k0 : (0 : Int) ≤ (k : Int) := by omega
      have k1 : (k : Int) < (ln : Int) := by omega
      generalize ls.getD k (0, 0, 0) = l at *
      obtain ⟨l0, l1, l2⟩ := l
      dsimp only at p0 p1 p2 hnx
      have q0 := p0 wr hgw
      have q1 := p1 wr hgw
      have q2 := p2 wr hgw
      have HX := Lib.hid hnx
      have hbr : base ≤ wr.heap.size := Nat.le_trans hb HB.out.size
      clear p0 p1 p2 hnx hgw
      go_wp2_with (fail)
      obtain ⟨V, hV⟩ : ∃ V, wr.alloc (.cells #[.int .i64 l0, .int .i64 l1, .int .i64 l2] 67) = V := ⟨_, rfl⟩
      have hgv : Grows wr V := hV ▸ grows_alloc _ _
      have hv0 : Whole V.drew wr.heap.size 67 #[.int .i64 l0, .int .i64 l1, .int .i64 l2] := by rw [← hV]; exact Whole.made _ _ _
      have hd0 : ∀ w', Whole w' wr.heap.size 67 #[.int .i64 l0, .int .i64 l1, .int .i64 l2] → w'.cell? ⟨wr.heap.size, 0, none⟩ = some (.int .i64 l0) := fun w' h => h.cell 0
      have hd1 : ∀ w', Whole w' wr.heap.size 67 #[.int .i64 l0, .int .i64 l1, .int .i64 l2] → w'.cell? ⟨wr.heap.size, 1, none⟩ = some (.int .i64 l1) := fun w' h => h.cell 1
      have hd2 : ∀ w', Whole w' wr.heap.size 67 #[.int .i64 l0, .int .i64 l1, .int .i64 l2] → w'.cell? ⟨wr.heap.size, 2, none⟩ = some (.int .i64 l2) := fun w' h => h.cell 2
      have HO6 := Lib.hid (owned_grow HR.out (Grows.trans hgv (kept_start V)))
      have HB6 := Lib.hid (Below.trans HB.out (Below.mono (Grows.trans hgv (kept_start V)) hbr))
      have hsz : base ≤ V.drew.heap.size := Nat.le_trans hbr (Grows.trans hgv (kept_start V)).size
      have HSV := Lib.hid hsz
      rw [hV]
      clear hgv hV hsz
      go_region_held3 (fun w' => Whole w' wr.heap.size 67 #[.int .i64 l0, .int .i64 l1, .int .i64 l2]) (with_reducible first | assumption) (first
        | (go_at_call 91
           refine (number_own base A8 (n + 4 + 4) c8 _ l2 2 _ HO8.out (Nat.le_trans hb HB8.out.size) (by omega) (by omega)).mono ?_
           rintro e w9 ⟨A9, c9, rfl, ho9, hb9, hs9⟩
           have hk9 := hs9 _ _ _ (by decide) (by assumption : Whole _ wr.heap.size 67 #[.int .i64 l0, .int .i64 l1, .int .i64 l2])
           have HO9 := Lib.hid ho9
           have HB9 := Lib.hid (Below.trans HB8.out hb9)
           clear ho9 hb9 hs9)
        | (go_at_call 91
           refine (number_own base A7 (n + 4) c7 _ l1 4 _ HO7.out (Nat.le_trans hb HB7.out.size) (by omega) (by omega)).mono ?_
           rintro e w8 ⟨A8, c8, rfl, ho8, hb8, hs8⟩
           have hk8 := hs8 _ _ _ (by decide) (by assumption : Whole _ wr.heap.size 67 #[.int .i64 l0, .int .i64 l1, .int .i64 l2])
           have HO8 := Lib.hid ho8
           have HB8 := Lib.hid (Below.trans HB7.out hb8)
           clear ho8 hb8 hs8)
        | (go_at_call 91
           refine (number_own base A n c _ l0 4 _ HO6.out HSV.out (by omega) (by omega)).mono ?_
           rintro e w7 ⟨A7, c7, rfl, ho7, hb7, hs7⟩
           have hk7 := hs7 _ _ _ (by decide) (by assumption : Whole _ wr.heap.size 67 #[.int .i64 l0, .int .i64 l1, .int .i64 l2])
           have HO7 := Lib.hid ho7
           have HB7 := Lib.hid (Below.trans HB6.out hb7)
           clear ho7 hb7 hs7))
      go_wp2_with (fail)
      go_roundw
      case rel =>
        refine ⟨A9, c9, k + 1, n + 4 + 4 + 2, by omega, by go_num, rfl, Lib.hid (by have := HN.out; omega), Lib.hid ?_, HB9⟩
        have h9 := HO9.out
        rw [HX.out, locsB_append, locsB, locsB, locB, List.append_nil]
        simpa [List.append_assoc] using h9
      case measure => simp [intOf]; omega
    · obtain rfl : k = ln := by omega
      have hR := HR.out
      have hN := HN.out
      rw [List.take_of_length_le (by omega)] at hR
      subst hN
      have HF := Lib.hid hR
      clear hR
      go_wp2_with (fail)
      go_ret
      have e1 := HNN.out
      have e2 := HPP.out
      subst e1 e2
      exact ⟨A, c, rfl, by simpa using HF.out, HB.out⟩
end Go.Proofs.Ytmfhpfehphbklaa
