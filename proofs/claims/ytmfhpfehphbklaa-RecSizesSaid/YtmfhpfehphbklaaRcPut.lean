/-
  The walks of rec's putInline, putPiece.
-/
import Derived.Test.YtmfhpfehphbklaaRcKey
import Derived.Test.YtmfhpfehphbklaaRcRight
namespace Go.Proofs.Ytmfhpfehphbklaa
open Go.RowKit
set_option linter.unusedSimpArgs false

theorem still {wB w w2 : World} {base : Nat} (hg : Grows wB w) (hbB : wB.heap.size ≤ base) (hb : Below base w w2) : Grows wB w2 := Below.trans hg (Below.mono hb hbB)

set_option maxRecDepth 100000 in
set_option maxHeartbeats 4000000 in
theorem putInline_own (base : Nat) (A0 : Option Addr) (n0 c0 : Nat) (xs ks : List UInt8) (kd id no size : Int) (LA : Option Addr) (ln lc : Nat) (BA : Option Addr) (bn bc : Nat) (w : World) (ho : w.ownsRow base 5 1 (.slice A0 n0 c0) n0 (xs.map byteV)) (hb : base ≤ w.heap.size) (hn : n0 ≤ 1000) (hk : ks.length ≤ 64) (bs : List UInt8) (wB : World) (hB : Sl wB BA bn bc bs) (hgB : Grows wB w) (hbB : wB.heap.size ≤ base) (hbn : bn ≤ 4096) :
    Calls Try.prog 75 #[.agg #[.int .i64 kd, .string ⟨ks.toArray⟩, .int .i64 id, .int .i64 no, .int .i64 size, .slice LA ln lc, .slice BA bn bc], .slice A0 n0 c0] w fun e w' => ∃ A' c', e = .returned (.slice A' (n0 + 1 + ks.length + bn) c') ∧ w'.ownsRow base 5 1 (.slice A' (n0 + 1 + ks.length + bn) c') (n0 + 1 + ks.length + bn) ((xs ++ keyP ks ++ bs).map byteV) ∧ Below base w w' := by
  go_enter Try.func75, Try.ntmps75
  go_wp2_with (fail)
  obtain ⟨W0, hW0⟩ : ∃ W0, w.alloc (.cells #[.int .i64 kd, .string ⟨ks.toArray⟩, .int .i64 id, .int .i64 no, .int .i64 size, .slice LA ln lc, .slice BA bn bc] 78) = W0 := ⟨_, rfl⟩
  have hg0 : Grows w W0 := hW0 ▸ grows_alloc _ _
  have hw0 : Whole W0 w.heap.size 78 #[.int .i64 kd, .string ⟨ks.toArray⟩, .int .i64 id, .int .i64 no, .int .i64 size, .slice LA ln lc, .slice BA bn bc] := by rw [← hW0]; exact Whole.made _ _ _
  have hc1 : ∀ w', Whole w' w.heap.size 78 #[.int .i64 kd, .string ⟨ks.toArray⟩, .int .i64 id, .int .i64 no, .int .i64 size, .slice LA ln lc, .slice BA bn bc] → w'.cell? ⟨w.heap.size, 1, none⟩ = some (.string ⟨ks.toArray⟩) := fun w' h => h.cell 1
  have hc2 : ∀ w', Whole w' w.heap.size 78 #[.int .i64 kd, .string ⟨ks.toArray⟩, .int .i64 id, .int .i64 no, .int .i64 size, .slice LA ln lc, .slice BA bn bc] → w'.cell? ⟨w.heap.size, 2, none⟩ = some (.int .i64 id) := fun w' h => h.cell 2
  have hc3 : ∀ w', Whole w' w.heap.size 78 #[.int .i64 kd, .string ⟨ks.toArray⟩, .int .i64 id, .int .i64 no, .int .i64 size, .slice LA ln lc, .slice BA bn bc] → w'.cell? ⟨w.heap.size, 3, none⟩ = some (.int .i64 no) := fun w' h => h.cell 3
  have hc4 : ∀ w', Whole w' w.heap.size 78 #[.int .i64 kd, .string ⟨ks.toArray⟩, .int .i64 id, .int .i64 no, .int .i64 size, .slice LA ln lc, .slice BA bn bc] → w'.cell? ⟨w.heap.size, 4, none⟩ = some (.int .i64 size) := fun w' h => h.cell 4
  have hc5 : ∀ w', Whole w' w.heap.size 78 #[.int .i64 kd, .string ⟨ks.toArray⟩, .int .i64 id, .int .i64 no, .int .i64 size, .slice LA ln lc, .slice BA bn bc] → w'.cell? ⟨w.heap.size, 5, none⟩ = some (.slice LA ln lc) := fun w' h => h.cell 5
  have hc6 : ∀ w', Whole w' w.heap.size 78 #[.int .i64 kd, .string ⟨ks.toArray⟩, .int .i64 id, .int .i64 no, .int .i64 size, .slice LA ln lc, .slice BA bn bc] → w'.cell? ⟨w.heap.size, 6, none⟩ = some (.slice BA bn bc) := fun w' h => h.cell 6
  have HO := Lib.hid (owned_grow ho (Grows.trans hg0 (kept_start W0)))
  have HG := Lib.hid (show Below base w W0.drew from Below.mono (Grows.trans hg0 (kept_start W0)) hb)
  have hsz : base ≤ W0.drew.heap.size := Nat.le_trans hb (Grows.trans hg0 (kept_start W0)).size
  have HSZ := Lib.hid hsz
  rw [hW0]
  have hw0' : Whole W0.drew w.heap.size 78 #[.int .i64 kd, .string ⟨ks.toArray⟩, .int .i64 id, .int .i64 no, .int .i64 size, .slice LA ln lc, .slice BA bn bc] := hw0
  clear ho hg0 hsz hW0
  go_region_held3 (fun w' => Whole w' w.heap.size 78 #[.int .i64 kd, .string ⟨ks.toArray⟩, .int .i64 id, .int .i64 no, .int .i64 size, .slice LA ln lc, .slice BA bn bc]) (with_reducible first | assumption) (first
    | (go_at_call 96
       refine (keyPut_own base A0 n0 c0 xs ks _ HO.out HSZ.out (by omega) hk).mono ?_
       rintro e w1 ⟨A1, c1, rfl, ho1, hb1, hs1⟩
       have hk1 := hs1 _ _ _ (by decide) (by assumption : Whole _ w.heap.size 78 #[.int .i64 kd, .string ⟨ks.toArray⟩, .int .i64 id, .int .i64 no, .int .i64 size, .slice LA ln lc, .slice BA bn bc])
       have HO1 := Lib.hid ho1
       have HB1 := Lib.hid (Below.trans HG.out hb1)
       clear ho1 hb1 hs1)
    | (refine step_app isSl_made isSl_bytes (by rfl) (.tmp 8) (.tmp 10) (by rfl) (base := base) (by rfl) HO1.out (by rfl) (hB.grow (still hgB hbB HB1.out)) (n0 + 1 + ks.length + bn) rfl (by omega) (Nat.le_trans hb HB1.out.size) ?_
       intro A2 c2 w2 ho2 hb2 hs2
       have hk2 := hs2 _ _ _ (by decide) (by assumption : Whole _ w.heap.size 78 #[.int .i64 kd, .string ⟨ks.toArray⟩, .int .i64 id, .int .i64 no, .int .i64 size, .slice LA ln lc, .slice BA bn bc])
       have HO2 := Lib.hid ho2
       have HB2 := Lib.hid (Below.trans HB1.out hb2)
       clear ho2 hb2 hs2))
  go_wp2_with (fail)
  go_ret
  exact ⟨A2, c2, rfl, HO2.out, HB2.out⟩

set_option maxRecDepth 100000 in
set_option maxHeartbeats 4000000 in
theorem putPiece_own (base : Nat) (A0 : Option Addr) (n0 c0 : Nat) (xs ks : List UInt8) (kd id no size : Int) (LA : Option Addr) (ln lc : Nat) (BA : Option Addr) (bn bc : Nat) (w : World) (ho : w.ownsRow base 5 1 (.slice A0 n0 c0) n0 (xs.map byteV)) (hb : base ≤ w.heap.size) (hn : n0 ≤ 1000) (bs : List UInt8) (wB : World) (hB : Sl wB BA bn bc bs) (hgB : Grows wB w) (hbB : wB.heap.size ≤ base) (hbn : bn ≤ 4096) :
    Calls Try.prog 69 #[.agg #[.int .i64 kd, .string ⟨ks.toArray⟩, .int .i64 id, .int .i64 no, .int .i64 size, .slice LA ln lc, .slice BA bn bc], .slice A0 n0 c0] w fun e w' => ∃ A' c', e = .returned (.slice A' (n0 + 6 + 2 + bn) c') ∧ w'.ownsRow base 5 1 (.slice A' (n0 + 6 + 2 + bn) c') (n0 + 6 + 2 + bn) ((xs ++ numB id 6 ++ numB no 2 ++ bs).map byteV) ∧ Below base w w' := by
  go_enter Try.func69, Try.ntmps69
  go_wp2_with (fail)
  obtain ⟨W0, hW0⟩ : ∃ W0, w.alloc (.cells #[.int .i64 kd, .string ⟨ks.toArray⟩, .int .i64 id, .int .i64 no, .int .i64 size, .slice LA ln lc, .slice BA bn bc] 78) = W0 := ⟨_, rfl⟩
  have hg0 : Grows w W0 := hW0 ▸ grows_alloc _ _
  have hw0 : Whole W0 w.heap.size 78 #[.int .i64 kd, .string ⟨ks.toArray⟩, .int .i64 id, .int .i64 no, .int .i64 size, .slice LA ln lc, .slice BA bn bc] := by rw [← hW0]; exact Whole.made _ _ _
  have hc1 : ∀ w', Whole w' w.heap.size 78 #[.int .i64 kd, .string ⟨ks.toArray⟩, .int .i64 id, .int .i64 no, .int .i64 size, .slice LA ln lc, .slice BA bn bc] → w'.cell? ⟨w.heap.size, 1, none⟩ = some (.string ⟨ks.toArray⟩) := fun w' h => h.cell 1
  have hc2 : ∀ w', Whole w' w.heap.size 78 #[.int .i64 kd, .string ⟨ks.toArray⟩, .int .i64 id, .int .i64 no, .int .i64 size, .slice LA ln lc, .slice BA bn bc] → w'.cell? ⟨w.heap.size, 2, none⟩ = some (.int .i64 id) := fun w' h => h.cell 2
  have hc3 : ∀ w', Whole w' w.heap.size 78 #[.int .i64 kd, .string ⟨ks.toArray⟩, .int .i64 id, .int .i64 no, .int .i64 size, .slice LA ln lc, .slice BA bn bc] → w'.cell? ⟨w.heap.size, 3, none⟩ = some (.int .i64 no) := fun w' h => h.cell 3
  have hc4 : ∀ w', Whole w' w.heap.size 78 #[.int .i64 kd, .string ⟨ks.toArray⟩, .int .i64 id, .int .i64 no, .int .i64 size, .slice LA ln lc, .slice BA bn bc] → w'.cell? ⟨w.heap.size, 4, none⟩ = some (.int .i64 size) := fun w' h => h.cell 4
  have hc5 : ∀ w', Whole w' w.heap.size 78 #[.int .i64 kd, .string ⟨ks.toArray⟩, .int .i64 id, .int .i64 no, .int .i64 size, .slice LA ln lc, .slice BA bn bc] → w'.cell? ⟨w.heap.size, 5, none⟩ = some (.slice LA ln lc) := fun w' h => h.cell 5
  have hc6 : ∀ w', Whole w' w.heap.size 78 #[.int .i64 kd, .string ⟨ks.toArray⟩, .int .i64 id, .int .i64 no, .int .i64 size, .slice LA ln lc, .slice BA bn bc] → w'.cell? ⟨w.heap.size, 6, none⟩ = some (.slice BA bn bc) := fun w' h => h.cell 6
  have HO := Lib.hid (owned_grow ho (Grows.trans hg0 (kept_start W0)))
  have HG := Lib.hid (show Below base w W0.drew from Below.mono (Grows.trans hg0 (kept_start W0)) hb)
  have hsz : base ≤ W0.drew.heap.size := Nat.le_trans hb (Grows.trans hg0 (kept_start W0)).size
  have HSZ := Lib.hid hsz
  rw [hW0]
  have hw0' : Whole W0.drew w.heap.size 78 #[.int .i64 kd, .string ⟨ks.toArray⟩, .int .i64 id, .int .i64 no, .int .i64 size, .slice LA ln lc, .slice BA bn bc] := hw0
  clear ho hg0 hsz hW0
  go_region_held3 (fun w' => Whole w' w.heap.size 78 #[.int .i64 kd, .string ⟨ks.toArray⟩, .int .i64 id, .int .i64 no, .int .i64 size, .slice LA ln lc, .slice BA bn bc]) (with_reducible first | assumption) (first
    | (go_at_call 91
       refine (number_own base A1 (n0 + 6) c1 _ no 2 _ HO1.out (Nat.le_trans hb HB1.out.size) (by omega) (by omega)).mono ?_
       rintro e w2 ⟨A2, c2, rfl, ho2, hb2, hs2⟩
       have hk2 := hs2 _ _ _ (by decide) (by assumption : Whole _ w.heap.size 78 #[.int .i64 kd, .string ⟨ks.toArray⟩, .int .i64 id, .int .i64 no, .int .i64 size, .slice LA ln lc, .slice BA bn bc])
       have HO2 := Lib.hid ho2
       have HB2 := Lib.hid (Below.trans HB1.out hb2)
       clear ho2 hb2 hs2)
    | (go_at_call 91
       refine (number_own base A0 n0 c0 xs id 6 _ HO.out HSZ.out (by omega) (by omega)).mono ?_
       rintro e w1 ⟨A1, c1, rfl, ho1, hb1, hs1⟩
       have hk1 := hs1 _ _ _ (by decide) (by assumption : Whole _ w.heap.size 78 #[.int .i64 kd, .string ⟨ks.toArray⟩, .int .i64 id, .int .i64 no, .int .i64 size, .slice LA ln lc, .slice BA bn bc])
       have HO1 := Lib.hid ho1
       have HB1 := Lib.hid (Below.trans HG.out hb1)
       clear ho1 hb1 hs1))
  have m6 := hc6 _ hk2
  have HB6 := Lib.hid (hB.grow (still hgB hbB HB2.out))
  go_wp2_with (at_builtin
               refine list_app isSl_made isSl_bytes rfl (.tmp 12) (.tmp 14) rfl (base := base) rfl HO2.out rfl HB6.out (n0 + 6 + 2 + bn) rfl (by omega) (Nat.le_trans hb HB2.out.size) ?_
               intro A3 c3 w3 ho3 hb3 hs3
               have HO3 := Lib.hid ho3
               have HB3 := Lib.hid (Below.trans HB2.out hb3)
               clear ho3 hb3 hs3)
  go_ret
  exact ⟨A3, c3, rfl, HO3.out, HB3.out⟩
end Go.Proofs.Ytmfhpfehphbklaa
