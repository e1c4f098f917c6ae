import Derived.Test.YtlldcogkcjnejaaGreatMG30
import Derived.Test.YtlldcogkcjnejaaGreatMG22
import Derived.Test.YtlldcogkcjnejaaGreatMG27
namespace Go.Proofs.YtlldcogkcjnejaaGreat
open Go.Lib (hid)
open Go.RowKit

theorem Zbb {V : World} {o : Obj} {g t : Nat} {cs : Array Value} (h : Whole V.drew g t cs) : Whole (V.alloc o).drew g t cs := Whole.alloc (show Whole V g t cs from h) o
theorem Ji (V : World) (o : Obj) : Grows V.drew (V.alloc o).drew := ⟨(Zb V o).os, (Zb V o).tape, (Zb V o).output, (Zb V o).size, (Zb V o).block⟩

set_option maxRecDepth 100000 in
set_option maxHeartbeats 8000000 in
theorem Zb9 (ks : List UInt8) (kd id no size : Int) (LA : Option Addr) (ln lc : Nat) (BA : Option Addr) (bn bc : Nat) (ls : List Lc) (bs : List UInt8) (w : World) (hin : RcIn w LA ln lc BA bn bc (⟨kd, ks, id, no, size, ls, bs⟩ : Rc)) :
 Calls Tryz.prog 62 #[.agg #[.int .i64 kd, .string ⟨ks.toArray⟩, .int .i64 id, .int .i64 no, .int .i64 size, .slice LA ln lc, .slice BA bn bc]] w fun e w' => ∃ A' m c', e = .returned (.slice A' m c') ∧ w'.ownsRow w.heap.size 5 1 (.slice A' m c') m ((putR (⟨kd, ks, id, no, size, ls, bs⟩ : Rc)).map byteV) ∧ Below w.heap.size w w' := by
 have hl1 := hin.locs.len
 have hl2 := hin.sl.len
 dsimp only at hl1 hl2
 have hss := Yy ks
 have HI := hid hin
 have hr := Zc7 kd ks id no size LA ln lc BA bn bc ls bs (w.alloc (.cells #[.int .i64 kd, .string ⟨ks.toArray⟩, .int .i64 id, .int .i64 no, .int .i64 size, .slice LA ln lc, .slice BA bn bc] 33)) (hin.grow (Zb _ _))
 have hw0 := Whole.made w 33 #[.int .i64 kd, .string ⟨ks.toArray⟩, .int .i64 id, .int .i64 no, .int .i64 size, .slice LA ln lc, .slice BA bn bc]
 have HW0 := hid hw0
 have HR := hid hr
 clear hin hw0 hr
 go_enter Tryz.func62, Tryz.ntmps62
 go_wp2_with (fail)
 refine HR.out.mono ?_
 rintro e w1 ⟨rfl, hb1⟩
 have hz := Grows.whole hb1 HW0.out
 have HZ1 := hid hz
 have HG1 := hid (Grows.trans (Zb w _) hb1)
 have c0 := hz.cell 0
 have c1 := hz.cell 1
 have c2 := hz.cell 2
 have c3 := hz.cell 3
 have c4 := hz.cell 4
 have c5 := hz.cell 5
 have c6 := hz.cell 6
 simp only [Gt] at c0 c1 c2 c3 c4 c5 c6
 have hlt := hz.lt
 clear hz hb1 HR
 by_cases hright : Zx (⟨kd, ks, id, no, size, ls, bs⟩ : Rc)
 ·rw [decide_eq_true hright]
  have hby := (Z9 kd).symm
  have hput : putR (⟨kd, ks, id, no, size, ls, bs⟩ : Rc) = byteI kd :: bodyR (⟨kd, ks, id, no, size, ls, bs⟩ : Rc) := by unfold putR; rw [if_pos hright]
  have HPUT := hid hput
  have hkind := Zbz hright
  dsimp only at hkind
  have hbnd : ks.length ≤ 64 ∧ bn ≤ 4096 ∧ ln ≤ 512 := by
   have h := hright
   unfold Zx Jf Zbd Yx Zbe Bare KeyOk Yl at h
   dsimp only at h
   omega
  obtain ⟨hks, hbn, hln⟩ := hbnd
  clear hright hput
  rcases hkind with rfl | rfl | rfl | rfl
  ·skip
   go_wp2_with (fail)
   obtain ⟨V, hV⟩ : ∃ V, w1.alloc (.cells #[.int .u8 1] 5) = V := ⟨_, rfl⟩
   have hgv : Grows w1 V := hV ▸ Zb _ _
   have ho0 : V.ownsRow w1.heap.size 5 1 (.slice (some ⟨w1.heap.size, 0, none⟩) 1 1) 1 ([byteI 1].map byteV) := by
    rw [← hV]
    exact World.ownsRow_lit (size := 1) (base := w1.heap.size) (e := 5) w1 #[.int .u8 1] 1 (Nat.le_refl _) (by unfold maxLen; omega) rfl
   have hwV : Whole V.drew w.heap.size 33 #[.int .i64 1, .string ⟨ks.toArray⟩, .int .i64 id, .int .i64 no, .int .i64 size, .slice LA ln lc, .slice BA bn bc] := (Grows.trans hgv (Zn V)).whole HZ1.out
   have HO0 := hid (Zd ho0 (Zn V))
   have HB0 := hid (show Below w1.heap.size w1 V.drew from Grows.trans hgv (Zn V))
   have hcj1 : ∀ w', Whole w' w.heap.size 33 #[.int .i64 1, .string ⟨ks.toArray⟩, .int .i64 id, .int .i64 no, .int .i64 size, .slice LA ln lc, .slice BA bn bc] → w'.cell? ⟨w.heap.size, 1, none⟩ = some (.string ⟨ks.toArray⟩) := fun w' h => h.cell 1
   have hcj2 : ∀ w', Whole w' w.heap.size 33 #[.int .i64 1, .string ⟨ks.toArray⟩, .int .i64 id, .int .i64 no, .int .i64 size, .slice LA ln lc, .slice BA bn bc] → w'.cell? ⟨w.heap.size, 2, none⟩ = some (.int .i64 id) := fun w' h => h.cell 2
   have hcj3 : ∀ w', Whole w' w.heap.size 33 #[.int .i64 1, .string ⟨ks.toArray⟩, .int .i64 id, .int .i64 no, .int .i64 size, .slice LA ln lc, .slice BA bn bc] → w'.cell? ⟨w.heap.size, 3, none⟩ = some (.int .i64 no) := fun w' h => h.cell 3
   have hcj4 : ∀ w', Whole w' w.heap.size 33 #[.int .i64 1, .string ⟨ks.toArray⟩, .int .i64 id, .int .i64 no, .int .i64 size, .slice LA ln lc, .slice BA bn bc] → w'.cell? ⟨w.heap.size, 4, none⟩ = some (.int .i64 size) := fun w' h => h.cell 4
   have hcj5 : ∀ w', Whole w' w.heap.size 33 #[.int .i64 1, .string ⟨ks.toArray⟩, .int .i64 id, .int .i64 no, .int .i64 size, .slice LA ln lc, .slice BA bn bc] → w'.cell? ⟨w.heap.size, 5, none⟩ = some (.slice LA ln lc) := fun w' h => h.cell 5
   have hcj6 : ∀ w', Whole w' w.heap.size 33 #[.int .i64 1, .string ⟨ks.toArray⟩, .int .i64 id, .int .i64 no, .int .i64 size, .slice LA ln lc, .slice BA bn bc] → w'.cell? ⟨w.heap.size, 6, none⟩ = some (.slice BA bn bc) := fun w' h => h.cell 6
   clear hgv ho0
   rw [hV]
   clear hV c0 c1 c2 c3 c4 c5 c6
   go_region_held3 (fun w' => Whole w' w.heap.size 33 #[.int .i64 1, .string ⟨ks.toArray⟩, .int .i64 id, .int .i64 no, .int .i64 size, .slice LA ln lc, .slice BA bn bc]) (with_reducible first | assumption | exact Zbb (by assumption) | exact Whole.alloc (by assumption) _) (first
    | (go_at_call 106
       refine (Y2 w1.heap.size A11 (1 + 6) c11 _ no 2 _ HO11.out HB11.out.size (by omega) (by omega)).mono ?_
       rintro e w12 ⟨A12, c12, rfl, ho12, hb12, hs12⟩
       have hk12 := hs12 _ _ _ (by decide) (by assumption : Whole _ w.heap.size 33 #[.int .i64 1, .string ⟨ks.toArray⟩, .int .i64 id, .int .i64 no, .int .i64 size, .slice LA ln lc, .slice BA bn bc])
       have HO12 := hid ho12
       have HB12 := hid (Below.trans HB11.out hb12)
       clear ho12 hb12 hs12)
    | (go_at_call 106
       refine (Y2 w1.heap.size _ 1 1 _ id 6 _ HO0.out HB0.out.size (by omega) (by omega)).mono ?_
       rintro e w11 ⟨A11, c11, rfl, ho11, hb11, hs11⟩
       have hk11 := hs11 _ _ _ (by decide) (by assumption : Whole _ w.heap.size 33 #[.int .i64 1, .string ⟨ks.toArray⟩, .int .i64 id, .int .i64 no, .int .i64 size, .slice LA ln lc, .slice BA bn bc])
       have HO11 := hid ho11
       have HB11 := hid (Below.trans HB0.out hb11)
       clear ho11 hb11 hs11))
   have m6 := hcj6 _ hk12
   have HB6 := hid ((HI.out.grow (Grows.trans HG1.out HB12.out)).sl)
   go_wp2_with (at_builtin
                refine Y8 isSl_bytes isSl_bytes rfl (.tmp 23) (.tmp 25) rfl (base := w1.heap.size) rfl HO12.out rfl HB6.out (1 + 6 + 2 + bn) rfl (by omega) HB12.out.size ?_
                intro A3 c3 w3 ho3 hb3 hs3
                have HO3 := hid ho3
                have HB3 := hid (Below.trans HB12.out hb3)
                clear ho3 hb3 hs3)
   go_ret
   exact ⟨A3, _, c3, rfl, by rw [HPUT.out]; exact Zj (by simpa [bodyR] using HO3.out) HG1.out.size, Below.trans HG1.out (Below.mono HB3.out HG1.out.size)⟩
  ·skip
   go_wp2_with (fail)
   obtain ⟨V, hV⟩ : ∃ V, w1.alloc (.cells #[.int .u8 2] 5) = V := ⟨_, rfl⟩
   have hgv : Grows w1 V := hV ▸ Zb _ _
   have ho0 : V.ownsRow w1.heap.size 5 1 (.slice (some ⟨w1.heap.size, 0, none⟩) 1 1) 1 ([byteI 2].map byteV) := by
    rw [← hV]
    exact World.ownsRow_lit (size := 1) (base := w1.heap.size) (e := 5) w1 #[.int .u8 2] 1 (Nat.le_refl _) (by unfold maxLen; omega) rfl
   have hwV : Whole V.drew w.heap.size 33 #[.int .i64 2, .string ⟨ks.toArray⟩, .int .i64 id, .int .i64 no, .int .i64 size, .slice LA ln lc, .slice BA bn bc] := (Grows.trans hgv (Zn V)).whole HZ1.out
   have HO0 := hid (Zd ho0 (Zn V))
   have HB0 := hid (show Below w1.heap.size w1 V.drew from Grows.trans hgv (Zn V))
   have hcj1 : ∀ w', Whole w' w.heap.size 33 #[.int .i64 2, .string ⟨ks.toArray⟩, .int .i64 id, .int .i64 no, .int .i64 size, .slice LA ln lc, .slice BA bn bc] → w'.cell? ⟨w.heap.size, 1, none⟩ = some (.string ⟨ks.toArray⟩) := fun w' h => h.cell 1
   have hcj2 : ∀ w', Whole w' w.heap.size 33 #[.int .i64 2, .string ⟨ks.toArray⟩, .int .i64 id, .int .i64 no, .int .i64 size, .slice LA ln lc, .slice BA bn bc] → w'.cell? ⟨w.heap.size, 2, none⟩ = some (.int .i64 id) := fun w' h => h.cell 2
   have hcj3 : ∀ w', Whole w' w.heap.size 33 #[.int .i64 2, .string ⟨ks.toArray⟩, .int .i64 id, .int .i64 no, .int .i64 size, .slice LA ln lc, .slice BA bn bc] → w'.cell? ⟨w.heap.size, 3, none⟩ = some (.int .i64 no) := fun w' h => h.cell 3
   have hcj4 : ∀ w', Whole w' w.heap.size 33 #[.int .i64 2, .string ⟨ks.toArray⟩, .int .i64 id, .int .i64 no, .int .i64 size, .slice LA ln lc, .slice BA bn bc] → w'.cell? ⟨w.heap.size, 4, none⟩ = some (.int .i64 size) := fun w' h => h.cell 4
   have hcj5 : ∀ w', Whole w' w.heap.size 33 #[.int .i64 2, .string ⟨ks.toArray⟩, .int .i64 id, .int .i64 no, .int .i64 size, .slice LA ln lc, .slice BA bn bc] → w'.cell? ⟨w.heap.size, 5, none⟩ = some (.slice LA ln lc) := fun w' h => h.cell 5
   have hcj6 : ∀ w', Whole w' w.heap.size 33 #[.int .i64 2, .string ⟨ks.toArray⟩, .int .i64 id, .int .i64 no, .int .i64 size, .slice LA ln lc, .slice BA bn bc] → w'.cell? ⟨w.heap.size, 6, none⟩ = some (.slice BA bn bc) := fun w' h => h.cell 6
   clear hgv ho0
   rw [hV]
   clear hV c0 c1 c2 c3 c4 c5 c6
   have hkb : IntKind.u8.wrap (ks.length : Int) = ((byteI ks.length).toNat : Int) := by rw [IntKind.wrap_u8, Z9]
   go_region_held3 (fun w' => Whole w' w.heap.size 33 #[.int .i64 2, .string ⟨ks.toArray⟩, .int .i64 id, .int .i64 no, .int .i64 size, .slice LA ln lc, .slice BA bn bc]) (with_reducible first | assumption | exact Zbb (by assumption) | exact Whole.alloc (by assumption) _) (first
    | (refine Zc4 isSl_bytes (by rfl) (.tmp 39) (.tmp 41) (by rfl) (base := w1.heap.size) (by rfl) HO11.out (ks := ks) (by rfl) (1 + 1 + ks.length) rfl (by omega) HB11.out.size ?_
       intro A12 c12 w12 ho2 hb2 hs2
       have hk12 := hs2 _ _ _ (by decide) (by assumption : Whole _ w.heap.size 33 #[.int .i64 2, .string ⟨ks.toArray⟩, .int .i64 id, .int .i64 no, .int .i64 size, .slice LA ln lc, .slice BA bn bc])
       have HO12 := hid ho2
       have HB12 := hid (Below.trans HB11.out hb2)
       clear ho2 hb2 hs2)
    | (refine Zf7 isSl_bytes isSl_bytes (by rfl) (.tmp 33) (.tmp 38) (by rfl) (base := w1.heap.size) (by rfl) (Zd HO0.out (Ji V _)) (by rfl) (Whole.sl (show Whole ((V.alloc _).drew) _ 5 #[.int .u8 ((byteI ks.length).toNat : Int)] from Whole.made V _ _) [byteI ks.length] rfl rfl) (1 + 1) rfl (by omega) (Nat.le_trans HB0.out.size (Ji V _).size) ?_
       intro A11 c11 w11 ho1 hb1 hs1
       have hk11 := hs1 _ _ _ (by decide) (by assumption : Whole _ w.heap.size 33 #[.int .i64 2, .string ⟨ks.toArray⟩, .int .i64 id, .int .i64 no, .int .i64 size, .slice LA ln lc, .slice BA bn bc])
       have HO11 := hid ho1
       have HB11 := hid (Below.trans (Below.trans HB0.out (Below.mono (Ji V _) HB0.out.size)) hb1)
       clear ho1 hb1 hs1))
   have m0 : w12.cell? ⟨w.heap.size, 0, none⟩ = some (.int .i64 2) := hk12.cell 0
   go_wp2_with (fail)
   have hk12d : Whole w12.drew w.heap.size 33 #[.int .i64 2, .string ⟨ks.toArray⟩, .int .i64 id, .int .i64 no, .int .i64 size, .slice LA ln lc, .slice BA bn bc] := hk12
   have HO12d := hid (Zd HO12.out (Zn w12))
   have HB12d := hid (show Below w1.heap.size w1 w12.drew from Below.trans HB12.out (Below.mono (Zn w12) HB12.out.size))
   clear hk11 m0
   go_region_held3 (fun w' => Whole w' w.heap.size 33 #[.int .i64 2, .string ⟨ks.toArray⟩, .int .i64 id, .int .i64 no, .int .i64 size, .slice LA ln lc, .slice BA bn bc]) (with_reducible first | assumption | exact Zbb (by assumption) | exact Whole.alloc (by assumption) _) (first
    | (go_at_call 106
       refine (Y2 w1.heap.size A14 (1 + 1 + ks.length + 6 + 3) c14 _ (ln : Int) 2 _ HO14.out HB14.out.size (by omega) (by omega)).mono ?_
       rintro e w15 ⟨A15, c15, rfl, ho15, hb15, hs15⟩
       have hk15 := hs15 _ _ _ (by decide) (by assumption : Whole _ w.heap.size 33 #[.int .i64 2, .string ⟨ks.toArray⟩, .int .i64 id, .int .i64 no, .int .i64 size, .slice LA ln lc, .slice BA bn bc])
       have HO15 := hid ho15
       have HB15 := hid (Below.trans HB14.out hb15)
       clear ho15 hb15 hs15)
    | (go_at_call 106
       refine (Y2 w1.heap.size A13 (1 + 1 + ks.length + 6) c13 _ size 3 _ HO13.out HB13.out.size (by omega) (by omega)).mono ?_
       rintro e w14 ⟨A14, c14, rfl, ho14, hb14, hs14⟩
       have hk14 := hs14 _ _ _ (by decide) (by assumption : Whole _ w.heap.size 33 #[.int .i64 2, .string ⟨ks.toArray⟩, .int .i64 id, .int .i64 no, .int .i64 size, .slice LA ln lc, .slice BA bn bc])
       have HO14 := hid ho14
       have HB14 := hid (Below.trans HB13.out hb14)
       clear ho14 hb14 hs14)
    | (go_at_call 106
       refine (Y2 w1.heap.size A12 (1 + 1 + ks.length) c12 _ id 6 _ HO12d.out HB12d.out.size (by omega) (by omega)).mono ?_
       rintro e w13 ⟨A13, c13, rfl, ho13, hb13, hs13⟩
       have hk13 := hs13 _ _ _ (by decide) (by assumption : Whole _ w.heap.size 33 #[.int .i64 2, .string ⟨ks.toArray⟩, .int .i64 id, .int .i64 no, .int .i64 size, .slice LA ln lc, .slice BA bn bc])
       have HO13 := hid ho13
       have HB13 := hid (Below.trans HB12d.out hb13)
       clear ho13 hb13 hs13))
   have m5 := hcj5 _ hk15
   obtain ⟨P, hP⟩ : ∃ P, [byteI 2] ++ [byteI ks.length] ++ ks ++ numB id 6 ++ numB size 3 ++ numB ln 2 = P := ⟨_, rfl⟩
   have HO15' := HO15.out
   rw [hP] at HO15'
   have HPP := hid hP
   obtain ⟨N, hN⟩ : ∃ N, 1 + 1 + ks.length + 6 + 3 + 2 = N := ⟨_, rfl⟩
   have HNN := hid hN
   have hN2 : N ≤ 2000 := by omega
   have HOP := hid HO15'
   have HK := hid hk15
   have HLL := hid HI.out.locs
   dsimp only at HLL
   have hgw1 := HG1.out
   clear HO15' hk12 hk12d hk13 hk14 hk15 hwV HO0 HO11 HO12 HO12d HO13 HO14 hP hN hcj1 hcj2 hcj3 hcj4 hcj5 hcj6
   go_wp2_with (fail)
   go_loopw [3, 4] (fun m i wr => ∃ (A : Option Addr) (c k n : Nat), k ≤ ln ∧ i = .int .i64 (k : Nat) ∧ m = .slice A n c ∧ Hid (n = N + 10 * k) ∧ Hid (wr.ownsRow w1.heap.size 5 1 (.slice A n c) n ((P ++ locsB (ls.take k)).map byteV)) ∧ Hid (Below w1.heap.size w1 wr) ∧ Hid (Whole wr w.heap.size 33 #[.int .i64 2, .string ⟨ks.toArray⟩, .int .i64 id, .int .i64 no, .int .i64 size, .slice LA ln lc, .slice BA bn bc])) (fun _ i _ => ln - (intOf i).toNat)
   case atStart => exact ⟨A15, c15, 0, 1 + 1 + ks.length + 6 + 3 + 2, by omega, rfl, rfl, hid (by have := HNN.out; omega), hid (by simpa [locsB] using HOP.out), HB15, HK⟩
   case round =>
    obtain ⟨A, c, k, n, hk, rfl, rfl, HN, HRW, HB, HW⟩ := hrel
    have hm5 := HW.out.cell 5
    simp only [Gt] at hm5
    by_cases hlt : k < ln
    ·obtain ⟨ad, rfl, p0, p1, p2⟩ := HLL.out.spot hlt
     have hgw : Grows w wr := Grows.trans hgw1 HB.out
     have hn3 : n ≤ 10000 := by have := HN.out; omega
     have hnx := Zd3 ls k (by omega)
     have k0 : (0 : Int) ≤ (k : Int) := by omega
     have k1 : (k : Int) < (ln : Int) := by omega
     generalize ls.getD k (0, 0, 0) = l at *
     obtain ⟨l0, l1, l2⟩ := l
     dsimp only at p0 p1 p2 hnx
     have HX := hid hnx
     have j5 : ∀ w', Whole w' w.heap.size 33 #[.int .i64 2, .string ⟨ks.toArray⟩, .int .i64 id, .int .i64 no, .int .i64 size, .slice (some ad) ln lc, .slice BA bn bc] ∧ Grows w w' → w'.cell? ⟨w.heap.size, 5, none⟩ = some (.slice (some ad) ln lc) := fun w' h => h.1.cell 5
     have j0 : ∀ w', Whole w' w.heap.size 33 #[.int .i64 2, .string ⟨ks.toArray⟩, .int .i64 id, .int .i64 no, .int .i64 size, .slice (some ad) ln lc, .slice BA bn bc] ∧ Grows w w' → w'.cell? (ad.add (k * 3)) = some (.int .i64 l0) := fun w' h => p0 w' h.2
     have j1 : ∀ w', Whole w' w.heap.size 33 #[.int .i64 2, .string ⟨ks.toArray⟩, .int .i64 id, .int .i64 no, .int .i64 size, .slice (some ad) ln lc, .slice BA bn bc] ∧ Grows w w' → w'.cell? { block := (ad.add (k * 3)).block, off := (ad.add (k * 3)).off + 1 } = some (.int .i64 l1) := fun w' h => p1 w' h.2
     have j2 : ∀ w', Whole w' w.heap.size 33 #[.int .i64 2, .string ⟨ks.toArray⟩, .int .i64 id, .int .i64 no, .int .i64 size, .slice (some ad) ln lc, .slice BA bn bc] ∧ Grows w w' → w'.cell? { block := (ad.add (k * 3)).block, off := (ad.add (k * 3)).off + 2 } = some (.int .i64 l2) := fun w' h => p2 w' h.2
     have hS0 : Whole wr.drew w.heap.size 33 #[.int .i64 2, .string ⟨ks.toArray⟩, .int .i64 id, .int .i64 no, .int .i64 size, .slice (some ad) ln lc, .slice BA bn bc] ∧ Grows w wr.drew := ⟨HW.out, Grows.trans hgw (Zn wr)⟩
     have HO16 := hid (Zd HRW.out (Zn wr))
     have HB16 := hid (show Below w1.heap.size w1 wr.drew from Below.trans HB.out (Below.mono (Zn wr) HB.out.size))
     clear hnx p0 p1 p2 hgw
     go_wp2_with (fail)
     go_region_held3 (fun w' => Whole w' w.heap.size 33 #[.int .i64 2, .string ⟨ks.toArray⟩, .int .i64 id, .int .i64 no, .int .i64 size, .slice (some ad) ln lc, .slice BA bn bc] ∧ Grows w w') (with_reducible first | assumption) (first
      | (go_at_call 106
         refine (Y2 w1.heap.size A18 (n + 4 + 4) c18 _ l2 2 _ HO18.out HB18.out.size (by omega) (by omega)).mono ?_
         rintro e w19 ⟨A19, c19, rfl, ho19, hb19, hs19⟩
         have hh : Whole w18 w.heap.size 33 #[.int .i64 2, .string ⟨ks.toArray⟩, .int .i64 id, .int .i64 no, .int .i64 size, .slice (some ad) ln lc, .slice BA bn bc] ∧ Grows w w18 := by assumption
         have hk19 : Whole w19 w.heap.size 33 #[.int .i64 2, .string ⟨ks.toArray⟩, .int .i64 id, .int .i64 no, .int .i64 size, .slice (some ad) ln lc, .slice BA bn bc] ∧ Grows w w19 := ⟨hs19 _ _ _ (by decide) hh.1, Grows.trans hgw1 (Below.trans HB18.out hb19)⟩
         have HO19 := hid ho19
         have HB19 := hid (Below.trans HB18.out hb19)
         clear hh ho19 hb19 hs19)
      | (go_at_call 106
         refine (Y2 w1.heap.size A17 (n + 4) c17 _ l1 4 _ HO17.out HB17.out.size (by omega) (by omega)).mono ?_
         rintro e w18 ⟨A18, c18, rfl, ho18, hb18, hs18⟩
         have hh : Whole w17 w.heap.size 33 #[.int .i64 2, .string ⟨ks.toArray⟩, .int .i64 id, .int .i64 no, .int .i64 size, .slice (some ad) ln lc, .slice BA bn bc] ∧ Grows w w17 := by assumption
         have hk18 : Whole w18 w.heap.size 33 #[.int .i64 2, .string ⟨ks.toArray⟩, .int .i64 id, .int .i64 no, .int .i64 size, .slice (some ad) ln lc, .slice BA bn bc] ∧ Grows w w18 := ⟨hs18 _ _ _ (by decide) hh.1, Grows.trans hgw1 (Below.trans HB17.out hb18)⟩
         have HO18 := hid ho18
         have HB18 := hid (Below.trans HB17.out hb18)
         clear hh ho18 hb18 hs18)
      | (go_at_call 106
         refine (Y2 w1.heap.size A n c _ l0 4 _ HO16.out HB16.out.size (by omega) (by omega)).mono ?_
         rintro e w17 ⟨A17, c17, rfl, ho17, hb17, hs17⟩
         have hh : Whole wr.drew w.heap.size 33 #[.int .i64 2, .string ⟨ks.toArray⟩, .int .i64 id, .int .i64 no, .int .i64 size, .slice (some ad) ln lc, .slice BA bn bc] ∧ Grows w wr.drew := by assumption
         have hk17 : Whole w17 w.heap.size 33 #[.int .i64 2, .string ⟨ks.toArray⟩, .int .i64 id, .int .i64 no, .int .i64 size, .slice (some ad) ln lc, .slice BA bn bc] ∧ Grows w w17 := ⟨hs17 _ _ _ (by decide) hh.1, Grows.trans hgw1 (Below.trans HB16.out hb17)⟩
         have HO17 := hid ho17
         have HB17 := hid (Below.trans HB16.out hb17)
         clear hh ho17 hb17 hs17))
     go_wp2_with (fail)
     go_roundw
     case rel =>
      refine ⟨A19, c19, k + 1, n + 4 + 4 + 2, by omega, by go_num, rfl, hid (by have := HN.out; omega), hid ?_, HB19, hid hk19.1⟩
      have h9 := HO19.out
      rw [HX.out, locsB_append, locsB, locsB, locB, List.append_nil]
      simpa [List.append_assoc] using h9
     case measure => simp [intOf]; omega
    ·obtain rfl : k = ln := by omega
     have hR := HRW.out
     have hN := HN.out
     rw [List.take_of_length_le (by omega)] at hR
     subst hN
     have HF := hid hR
     clear hR
     go_wp2_with (fail)
     go_ret
     have e1 := HNN.out
     have e2 := HPP.out
     subst e1 e2
     refine ⟨A, _, c, rfl, ?_, Below.trans HG1.out (Below.mono HB.out HG1.out.size)⟩
     rw [HPUT.out]
     exact Zj (by simpa [bodyR, keyP, hl1] using HF.out) HG1.out.size
  ·skip
   go_wp2_with (fail)
   obtain ⟨V, hV⟩ : ∃ V, w1.alloc (.cells #[.int .u8 3] 5) = V := ⟨_, rfl⟩
   have hgv : Grows w1 V := hV ▸ Zb _ _
   have ho0 : V.ownsRow w1.heap.size 5 1 (.slice (some ⟨w1.heap.size, 0, none⟩) 1 1) 1 ([byteI 3].map byteV) := by
    rw [← hV]
    exact World.ownsRow_lit (size := 1) (base := w1.heap.size) (e := 5) w1 #[.int .u8 3] 1 (Nat.le_refl _) (by unfold maxLen; omega) rfl
   have hwV : Whole V.drew w.heap.size 33 #[.int .i64 3, .string ⟨ks.toArray⟩, .int .i64 id, .int .i64 no, .int .i64 size, .slice LA ln lc, .slice BA bn bc] := (Grows.trans hgv (Zn V)).whole HZ1.out
   have HO0 := hid (Zd ho0 (Zn V))
   have HB0 := hid (show Below w1.heap.size w1 V.drew from Grows.trans hgv (Zn V))
   have hcj1 : ∀ w', Whole w' w.heap.size 33 #[.int .i64 3, .string ⟨ks.toArray⟩, .int .i64 id, .int .i64 no, .int .i64 size, .slice LA ln lc, .slice BA bn bc] → w'.cell? ⟨w.heap.size, 1, none⟩ = some (.string ⟨ks.toArray⟩) := fun w' h => h.cell 1
   have hcj2 : ∀ w', Whole w' w.heap.size 33 #[.int .i64 3, .string ⟨ks.toArray⟩, .int .i64 id, .int .i64 no, .int .i64 size, .slice LA ln lc, .slice BA bn bc] → w'.cell? ⟨w.heap.size, 2, none⟩ = some (.int .i64 id) := fun w' h => h.cell 2
   have hcj3 : ∀ w', Whole w' w.heap.size 33 #[.int .i64 3, .string ⟨ks.toArray⟩, .int .i64 id, .int .i64 no, .int .i64 size, .slice LA ln lc, .slice BA bn bc] → w'.cell? ⟨w.heap.size, 3, none⟩ = some (.int .i64 no) := fun w' h => h.cell 3
   have hcj4 : ∀ w', Whole w' w.heap.size 33 #[.int .i64 3, .string ⟨ks.toArray⟩, .int .i64 id, .int .i64 no, .int .i64 size, .slice LA ln lc, .slice BA bn bc] → w'.cell? ⟨w.heap.size, 4, none⟩ = some (.int .i64 size) := fun w' h => h.cell 4
   have hcj5 : ∀ w', Whole w' w.heap.size 33 #[.int .i64 3, .string ⟨ks.toArray⟩, .int .i64 id, .int .i64 no, .int .i64 size, .slice LA ln lc, .slice BA bn bc] → w'.cell? ⟨w.heap.size, 5, none⟩ = some (.slice LA ln lc) := fun w' h => h.cell 5
   have hcj6 : ∀ w', Whole w' w.heap.size 33 #[.int .i64 3, .string ⟨ks.toArray⟩, .int .i64 id, .int .i64 no, .int .i64 size, .slice LA ln lc, .slice BA bn bc] → w'.cell? ⟨w.heap.size, 6, none⟩ = some (.slice BA bn bc) := fun w' h => h.cell 6
   clear hgv ho0
   rw [hV]
   clear hV c0 c1 c2 c3 c4 c5 c6
   have hkb : IntKind.u8.wrap (ks.length : Int) = ((byteI ks.length).toNat : Int) := by rw [IntKind.wrap_u8, Z9]
   go_region_held3 (fun w' => Whole w' w.heap.size 33 #[.int .i64 3, .string ⟨ks.toArray⟩, .int .i64 id, .int .i64 no, .int .i64 size, .slice LA ln lc, .slice BA bn bc]) (with_reducible first | assumption | exact Zbb (by assumption) | exact Whole.alloc (by assumption) _) (first
    | (refine Zc4 isSl_bytes (by rfl) (.tmp 39) (.tmp 41) (by rfl) (base := w1.heap.size) (by rfl) HO11.out (ks := ks) (by rfl) (1 + 1 + ks.length) rfl (by omega) HB11.out.size ?_
       intro A12 c12 w12 ho2 hb2 hs2
       have hk12 := hs2 _ _ _ (by decide) (by assumption : Whole _ w.heap.size 33 #[.int .i64 3, .string ⟨ks.toArray⟩, .int .i64 id, .int .i64 no, .int .i64 size, .slice LA ln lc, .slice BA bn bc])
       have HO12 := hid ho2
       have HB12 := hid (Below.trans HB11.out hb2)
       clear ho2 hb2 hs2)
    | (refine Zf7 isSl_bytes isSl_bytes (by rfl) (.tmp 33) (.tmp 38) (by rfl) (base := w1.heap.size) (by rfl) (Zd HO0.out (Ji V _)) (by rfl) (Whole.sl (show Whole ((V.alloc _).drew) _ 5 #[.int .u8 ((byteI ks.length).toNat : Int)] from Whole.made V _ _) [byteI ks.length] rfl rfl) (1 + 1) rfl (by omega) (Nat.le_trans HB0.out.size (Ji V _).size) ?_
       intro A11 c11 w11 ho1 hb1 hs1
       have hk11 := hs1 _ _ _ (by decide) (by assumption : Whole _ w.heap.size 33 #[.int .i64 3, .string ⟨ks.toArray⟩, .int .i64 id, .int .i64 no, .int .i64 size, .slice LA ln lc, .slice BA bn bc])
       have HO11 := hid ho1
       have HB11 := hid (Below.trans (Below.trans HB0.out (Below.mono (Ji V _) HB0.out.size)) hb1)
       clear ho1 hb1 hs1))
   have m6 := hcj6 _ hk12
   have m0 : w12.cell? ⟨w.heap.size, 0, none⟩ = some (.int .i64 3) := hk12.cell 0
   have HB6 := hid ((HI.out.grow (Grows.trans HG1.out HB12.out)).sl)
   go_wp2_with (at_builtin
                refine Y8 isSl_bytes isSl_bytes rfl (.tmp 46) (.tmp 48) rfl (base := w1.heap.size) rfl HO12.out rfl HB6.out (1 + 1 + ks.length + bn) rfl (by omega) HB12.out.size ?_
                intro A3 c3 w3 ho3 hb3 hs3
                have HO3 := hid ho3
                have HB3 := hid (Below.trans HB12.out hb3)
                clear ho3 hb3 hs3)
   go_ret
   exact ⟨A3, _, c3, rfl, by rw [HPUT.out]; exact Zj (by simpa [bodyR, keyP] using HO3.out) HG1.out.size, Below.trans HG1.out (Below.mono HB3.out HG1.out.size)⟩
  ·go_wp2_with (at_builtin
                refine Zbt isSl_bytes rfl (.tmp 29) (.tmp 31) rfl (base := w.heap.size) rfl (World.ownsRow_lit (size := 1) (base := w.heap.size) (e := 5) w1 #[.int .u8 4] 1 HG1.out.size (by unfold maxLen; omega) rfl) (xs := [byteI 4]) (ks := ks) rfl (1 + ks.length) rfl (by omega) (by have := HG1.out.size; simp; omega) ?_
                intro A2 c2' w2 ho2 hb2 hs2
                have HO2 := hid ho2
                have HB2 := hid (Below.trans (HG1.out.alloc HG1.out.size _) hb2)
                clear ho2 hb2 hs2)
   go_ret
   exact ⟨A2, _, c2', rfl, by rw [HPUT.out]; simpa [bodyR] using HO2.out, HB2.out⟩
 ·rw [decide_eq_false hright]
  go_wp2_with (fail)
  go_ret
  exact ⟨none, 0, 0, rfl, by rw [Zgk hright]; exact World.ownsRow_nil _ _ _ _, HG1.out⟩
end Go.Proofs.YtlldcogkcjnejaaGreat
