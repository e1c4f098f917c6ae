import Derived.Test.YtlldcogkcjnejaaGreatMG31
set_option linter.unusedVariables false
namespace Go.Proofs.YtlldcogkcjnejaaGreat
open Go.Lib (hid)
open Go.RowKit
set_option maxRecDepth 100000 in
set_option maxHeartbeats 4000000 in
theorem Zgm (ad : Addr) (n c : Nat) (b0 : UInt8) (xs : List UInt8) (w : World) (hs : Sl w (some ad) n c (b0 :: xs)) (hn : n ≤ 20000) (hk1 : b0.toNat ≠ 1) (hk4 : b0.toNat ≠ 4) (c0 : UInt8) (ys : List UInt8) (hx : xs = c0 :: ys) (hk3 : b0.toNat = 3) (hl : ¬ ys.length < c0.toNat) :
 Calls Tryz.prog 107 #[.slice (some ad) n c] w fun e w' => ∃ LA ln lc BA bn bc, e = .returned (.agg #[.int .i64 (refP b0.toNat xs).kind, .string ⟨(refP b0.toNat xs).key.toArray⟩, .int .i64 (refP b0.toNat xs).id, .int .i64 (refP b0.toNat xs).no, .int .i64 (refP b0.toNat xs).size, .slice LA ln lc, .slice BA bn bc]) ∧ RcOwn w' w.heap.size LA ln lc BA bn bc (refP b0.toNat xs) ∧ Below w.heap.size w w' := by
 have hlen := hs.len
 have hcap := hs.cap
 simp only [List.length_cons] at hlen
 have hn0 : (0 : Int) < (n : Int) := by omega
 have hnn : 0 < n := by omega
 obtain ⟨_, e0, hab, hcell⟩ := hs.bytes.spot (k := 0) (by omega)
 injection e0 with e0
 subst e0
 simp only [List.getD_cons_zero, Addr.add_zero'] at hcell
 have hb0 := b0.toNat_lt
 have HS := hid hs
 clear hs
 have hk1i : ¬ (b0.toNat : Int) = 1 := by omega
 have hk4i : ¬ (b0.toNat : Int) = 4 := by omega
 subst hx
 simp only [List.length_cons] at hlen
 have hn2 : ¬ (n : Int) < 2 := by omega
 have hn1 : (1 : Int) < (n : Int) := by omega
 have hn1n : 1 < n := by omega
 obtain ⟨_, e1, hab1, hcell1⟩ := HS.out.bytes.spot (k := 1) (by omega)
 injection e1 with e1
 subst e1
 simp only [List.getD_cons_succ, List.getD_cons_zero, Zai] at hcell1
 have hc0 := c0.toNat_lt
 have hk3i : (b0.toNat : Int) = 3 := by omega
 obtain ⟨at0, hat⟩ : ∃ m, 2 + c0.toNat = m := ⟨_, rfl⟩
 have hwr : IntKind.i64.wrap (2 + (c0.toNat : Int)) = (at0 : Int) := by rw [IntWalk.i64_in _ (by omega)]; omega
 have hge : ¬ (n : Int) < (at0 : Int) := by omega
 have hle : (at0 : Int) ≤ (n : Int) := by omega
 have hlc : (at0 : Int) ≤ (c : Int) := by omega
 have h2a : (2 : Int) ≤ (at0 : Int) := by omega
 have hatn : at0 ≤ n := by omega
 have h2n : 2 ≤ at0 := by omega
 have q2 : (2 : Int) ≤ (c : Int) := by omega
 have hy : refP b0.toNat (c0 :: ys) = ⟨3, ys.take c0.toNat, 0, 0, 0, [], ys.drop c0.toNat⟩ := by
  unfold refP
  rw [if_neg hk1i, if_neg hk4i]
  dsimp only
  rw [if_neg hl, if_pos hk3i, hk3i]
 rw [hy]
 dsimp only
 obtain ⟨ks, hks⟩ : ∃ ks, ys.take c0.toNat = ks := ⟨_, rfl⟩
 rw [hks]
 have p1 : ∀ w', Grows w w' → Sl w' (if c = 2 then some ad else some ⟨ad.block, ad.off + 2, none⟩) (at0 - 2) (c - 2) ks := fun w' hg => by
  by_cases h2c : c = 2
  ·have h := Sl.first (k := at0 - 2) (Sl.behind (k := 2) (HS.out.grow hg) (by omega)) (by omega)
   rw [if_pos h2c] at h
   rw [if_pos h2c]
   rw [← hks]
   simpa [show at0 - 2 = c0.toNat by omega] using h
  ·have h := Sl.part (k := 2) (m := at0) (HS.out.grow hg) (by omega) (by omega) h2c
   rw [if_neg h2c]
   rw [Zai, show at0 - 2 = c0.toNat by omega] at h
   rw [← hks, show at0 - 2 = c0.toNat by omega]
   simpa [← hat, show 2 + c0.toNat - 2 = c0.toNat by omega, show 2 + c0.toNat = c0.toNat + 1 + 1 by omega, List.take_succ_cons] using h
 have p2 : ∀ w', Grows w w' → Sl w' (if c = at0 then some ad else some ⟨ad.block, ad.off + at0, none⟩) (n - at0) (c - at0) (ys.drop c0.toNat) := fun w' hg => by
  have h := Sl.behind (k := at0) (HS.out.grow hg) (by omega)
  rw [show at0 = c0.toNat + 1 + 1 by omega] at *
  rw [Zai] at h
  simpa using h
 have hst := Zu (p1 ((w.alloc (.cells #[.int .i64 0, .string ⟨#[]⟩, .int .i64 0, .int .i64 0, .int .i64 0, .slice none 0 0, .slice none 0 0] 33)).alloc (.cells #[.int .i64 3, .string ⟨#[]⟩, .int .i64 0, .int .i64 0, .int .i64 0, .slice none 0 0, .slice none 0 0] 33)) (Grows.trans (Zb _ _) (Zb _ _)))
 generalize ys.drop c0.toNat = rest at *
 have HL := hid (And.intro hlen (And.intro hat hl))
 clear hy p1 hks hlen hat hl
 by_cases h2c : c = 2
 ·obtain rfl : at0 = 2 := by omega
  obtain rfl : n = 2 := by omega
  subst h2c
  have p3 : ∀ w', Grows w w' → Sl w' (some ad) 0 0 rest := fun w' hg => by simpa using p2 w' hg
  have P3 := hid p3
  clear p2 p3
  simp only [if_true, Nat.sub_self] at hst
  have hown := Y0 ((w.alloc (.cells #[.int .i64 0, .string ⟨#[]⟩, .int .i64 0, .int .i64 0, .int .i64 0, .slice none 0 0, .slice none 0 0] 33)).alloc (.cells #[.int .i64 3, .string ⟨ks.toArray⟩, .int .i64 0, .int .i64 0, .int .i64 0, .slice none 0 0, .slice none 0 0] 33))
  have hsz : ((w.alloc (.cells #[.int .i64 0, .string ⟨#[]⟩, .int .i64 0, .int .i64 0, .int .i64 0, .slice none 0 0, .slice none 0 0] 33)).alloc (.cells #[.int .i64 3, .string ⟨ks.toArray⟩, .int .i64 0, .int .i64 0, .int .i64 0, .slice none 0 0, .slice none 0 0] 33)).heap.size = w.heap.size + 1 + 1 := by simp
  rw [hsz] at hown
  have HOWN := hid hown
  have HBASE := hid (show w.heap.size + 1 + 1 ≤ (((w.alloc (.cells #[.int .i64 0, .string ⟨#[]⟩, .int .i64 0, .int .i64 0, .int .i64 0, .slice none 0 0, .slice none 0 0] 33)).alloc (.cells #[.int .i64 3, .string ⟨ks.toArray⟩, .int .i64 0, .int .i64 0, .int .i64 0, .slice none 0 0, .slice none 0 0] 33)).alloc (.cells #[] 5)).heap.size by rw [← hsz]; exact Z1 _ _)
  have HZ := hid ((Zb (w.alloc (.cells #[.int .i64 0, .string ⟨#[]⟩, .int .i64 0, .int .i64 0, .int .i64 0, .slice none 0 0, .slice none 0 0] 33)) (.cells #[.int .i64 3, .string ⟨ks.toArray⟩, .int .i64 0, .int .i64 0, .int .i64 0, .slice none 0 0, .slice none 0 0] 33)).whole (Whole.made w 33 #[.int .i64 0, .string ⟨#[]⟩, .int .i64 0, .int .i64 0, .int .i64 0, .slice none 0 0, .slice none 0 0]))
  have hr := Whole.made (w.alloc (.cells #[.int .i64 0, .string ⟨#[]⟩, .int .i64 0, .int .i64 0, .int .i64 0, .slice none 0 0, .slice none 0 0] 33)) 33 #[.int .i64 3, .string ⟨ks.toArray⟩, .int .i64 0, .int .i64 0, .int .i64 0, .slice none 0 0, .slice none 0 0]
  rw [World.size_alloc] at hr
  have HR := hid hr
  have HSZ := hid hsz
  clear hown hr hsz
  go_enter Tryz.func107, Tryz.ntmps107
  go_wp2_with (at_builtin
               first
               | (refine Y8 isSl_bytes isSl_bytes rfl (.tmp 66) (.tmp 69) rfl (base := w.heap.size + 1 + 1) rfl HOWN.out (A := some ad) (m := 0) (c := 0) rfl (P3.out _ (Grows.trans (Grows.trans (Zb _ _) (Zb _ _)) (Zb _ _))) (0) (by omega) (by omega) HBASE.out ?_
                  intro A1 c1 w1 ho hb hst
                  have hb' : Grows ((w.alloc (.cells #[.int .i64 0, .string ⟨#[]⟩, .int .i64 0, .int .i64 0, .int .i64 0, .slice none 0 0, .slice none 0 0] 33)).alloc (.cells #[.int .i64 3, .string ⟨ks.toArray⟩, .int .i64 0, .int .i64 0, .int .i64 0, .slice none 0 0, .slice none 0 0] 33)) w1 := Below.trans (Zb _ _) (by rw [HSZ.out]; exact hb)
                  have hz1 := hb'.whole HZ.out
                  have hr1 := hb'.whole HR.out
                  have HZ1 := hid hz1
                  have HR1 := hid hr1
                  have HO1 := hid ho
                  have HB1 := hid hb'
                  have zc0 := hz1.cell 0
                  have zf0 := hz1.free 0
                  have zc1 := hz1.cell 1
                  have zf1 := hz1.free 1
                  have zc2 := hz1.cell 2
                  have zf2 := hz1.free 2
                  have zc3 := hz1.cell 3
                  have zf3 := hz1.free 3
                  have zc4 := hz1.cell 4
                  have zf4 := hz1.free 4
                  have zc5 := hz1.cell 5
                  have zf5 := hz1.free 5
                  have zc6 := hz1.cell 6
                  have zf6 := hz1.free 6
                  have rc0 := hr1.cell 0
                  have rf0 := hr1.free 0
                  have rc1 := hr1.cell 1
                  have rf1 := hr1.free 1
                  have rc2 := hr1.cell 2
                  have rf2 := hr1.free 2
                  have rc3 := hr1.cell 3
                  have rf3 := hr1.free 3
                  have rc4 := hr1.cell 4
                  have rf4 := hr1.free 4
                  have rc5 := hr1.cell 5
                  have rf5 := hr1.free 5
                  have rc6 := hr1.cell 6
                  have rf6 := hr1.free 6
                  simp only [Gt] at zc0 zc1 zc2 zc3 zc4 zc5 zc6 rc0 rc1 rc2 rc3 rc4 rc5 rc6
                  clear ho hb hst hb' hz1 hr1)
   )
  obtain ⟨V, hV⟩ : ∃ V, w1.setCell ⟨w.heap.size + 1, 6, none⟩ (.slice A1 (0) c1) = V := ⟨_, rfl⟩
  rw [hV]
  have ht1 : Turns (w.heap.size + 1) w1 V := hV ▸ Turns.set 6 _
  have hzV := ht1.whole HZ1.out (by omega)
  obtain ⟨W, hW, hwh, hwt⟩ := Ya hzV (.int .i64 3) (.string ⟨ks.toArray⟩) (.int .i64 0) (.int .i64 0) (.int .i64 0) (.slice none 0 0) (.slice A1 (0) c1)
  rw [hW]
  have HWB := hid (And.intro ht1 hwt)
  have HZV := hid hzV
  clear hW hwt hV ht1 hzV
  refine bodyPost_ret (results_cell_row rfl _ _ w.heap.size _ _ (0, 0) _ rfl hwh Tryz.underlying33 rfl (by kernel_rfl)) rfl ?_
  exact ⟨none, 0, 0, A1, 0, c1, rfl, ⟨World.ownsRow_nil _ _ _ _, rfl, Zj (Zz (Zz HO1.out HWB.out.1 (by omega)) HWB.out.2 (by omega)) (by omega)⟩, Below.trans (Grows.trans (Grows.trans (Zb _ _) (Zb _ _)) HB1.out) (Below.trans (Below.mono (HWB.out.1.below (by have := HR1.out.lt; omega)) (by omega)) (HWB.out.2.below (by have := HZV.out.lt; omega)))⟩
 ·simp only [if_neg h2c] at hst
  by_cases hac : c = at0
  ·obtain rfl : n = c := by omega
   subst hac
   have p3 : ∀ w', Grows w w' → Sl w' (some ad) 0 0 rest := fun w' hg => by simpa using p2 w' hg
   have P3 := hid p3
   clear p2 p3
   have hown := Y0 ((w.alloc (.cells #[.int .i64 0, .string ⟨#[]⟩, .int .i64 0, .int .i64 0, .int .i64 0, .slice none 0 0, .slice none 0 0] 33)).alloc (.cells #[.int .i64 3, .string ⟨ks.toArray⟩, .int .i64 0, .int .i64 0, .int .i64 0, .slice none 0 0, .slice none 0 0] 33))
   have hsz : ((w.alloc (.cells #[.int .i64 0, .string ⟨#[]⟩, .int .i64 0, .int .i64 0, .int .i64 0, .slice none 0 0, .slice none 0 0] 33)).alloc (.cells #[.int .i64 3, .string ⟨ks.toArray⟩, .int .i64 0, .int .i64 0, .int .i64 0, .slice none 0 0, .slice none 0 0] 33)).heap.size = w.heap.size + 1 + 1 := by simp
   rw [hsz] at hown
   have HOWN := hid hown
   have HBASE := hid (show w.heap.size + 1 + 1 ≤ (((w.alloc (.cells #[.int .i64 0, .string ⟨#[]⟩, .int .i64 0, .int .i64 0, .int .i64 0, .slice none 0 0, .slice none 0 0] 33)).alloc (.cells #[.int .i64 3, .string ⟨ks.toArray⟩, .int .i64 0, .int .i64 0, .int .i64 0, .slice none 0 0, .slice none 0 0] 33)).alloc (.cells #[] 5)).heap.size by rw [← hsz]; exact Z1 _ _)
   have HZ := hid ((Zb (w.alloc (.cells #[.int .i64 0, .string ⟨#[]⟩, .int .i64 0, .int .i64 0, .int .i64 0, .slice none 0 0, .slice none 0 0] 33)) (.cells #[.int .i64 3, .string ⟨ks.toArray⟩, .int .i64 0, .int .i64 0, .int .i64 0, .slice none 0 0, .slice none 0 0] 33)).whole (Whole.made w 33 #[.int .i64 0, .string ⟨#[]⟩, .int .i64 0, .int .i64 0, .int .i64 0, .slice none 0 0, .slice none 0 0]))
   have hr := Whole.made (w.alloc (.cells #[.int .i64 0, .string ⟨#[]⟩, .int .i64 0, .int .i64 0, .int .i64 0, .slice none 0 0, .slice none 0 0] 33)) 33 #[.int .i64 3, .string ⟨ks.toArray⟩, .int .i64 0, .int .i64 0, .int .i64 0, .slice none 0 0, .slice none 0 0]
   rw [World.size_alloc] at hr
   have HR := hid hr
   have HSZ := hid hsz
   clear hown hr hsz
   go_enter Tryz.func107, Tryz.ntmps107
   go_wp2_with (at_builtin
                first
                | (refine Y8 isSl_bytes isSl_bytes rfl (.tmp 66) (.tmp 69) rfl (base := w.heap.size + 1 + 1) rfl HOWN.out (A := some ad) (m := 0) (c := 0) rfl (P3.out _ (Grows.trans (Grows.trans (Zb _ _) (Zb _ _)) (Zb _ _))) (0) (by omega) (by omega) HBASE.out ?_
                   intro A1 c1 w1 ho hb hst
                   have hb' : Grows ((w.alloc (.cells #[.int .i64 0, .string ⟨#[]⟩, .int .i64 0, .int .i64 0, .int .i64 0, .slice none 0 0, .slice none 0 0] 33)).alloc (.cells #[.int .i64 3, .string ⟨ks.toArray⟩, .int .i64 0, .int .i64 0, .int .i64 0, .slice none 0 0, .slice none 0 0] 33)) w1 := Below.trans (Zb _ _) (by rw [HSZ.out]; exact hb)
                   have hz1 := hb'.whole HZ.out
                   have hr1 := hb'.whole HR.out
                   have HZ1 := hid hz1
                   have HR1 := hid hr1
                   have HO1 := hid ho
                   have HB1 := hid hb'
                   have zc0 := hz1.cell 0
                   have zf0 := hz1.free 0
                   have zc1 := hz1.cell 1
                   have zf1 := hz1.free 1
                   have zc2 := hz1.cell 2
                   have zf2 := hz1.free 2
                   have zc3 := hz1.cell 3
                   have zf3 := hz1.free 3
                   have zc4 := hz1.cell 4
                   have zf4 := hz1.free 4
                   have zc5 := hz1.cell 5
                   have zf5 := hz1.free 5
                   have zc6 := hz1.cell 6
                   have zf6 := hz1.free 6
                   have rc0 := hr1.cell 0
                   have rf0 := hr1.free 0
                   have rc1 := hr1.cell 1
                   have rf1 := hr1.free 1
                   have rc2 := hr1.cell 2
                   have rf2 := hr1.free 2
                   have rc3 := hr1.cell 3
                   have rf3 := hr1.free 3
                   have rc4 := hr1.cell 4
                   have rf4 := hr1.free 4
                   have rc5 := hr1.cell 5
                   have rf5 := hr1.free 5
                   have rc6 := hr1.cell 6
                   have rf6 := hr1.free 6
                   simp only [Gt] at zc0 zc1 zc2 zc3 zc4 zc5 zc6 rc0 rc1 rc2 rc3 rc4 rc5 rc6
                   clear ho hb hst hb' hz1 hr1)
    )
   obtain ⟨V, hV⟩ : ∃ V, w1.setCell ⟨w.heap.size + 1, 6, none⟩ (.slice A1 (0) c1) = V := ⟨_, rfl⟩
   rw [hV]
   have ht1 : Turns (w.heap.size + 1) w1 V := hV ▸ Turns.set 6 _
   have hzV := ht1.whole HZ1.out (by omega)
   obtain ⟨W, hW, hwh, hwt⟩ := Ya hzV (.int .i64 3) (.string ⟨ks.toArray⟩) (.int .i64 0) (.int .i64 0) (.int .i64 0) (.slice none 0 0) (.slice A1 (0) c1)
   rw [hW]
   have HWB := hid (And.intro ht1 hwt)
   have HZV := hid hzV
   clear hW hwt hV ht1 hzV
   refine bodyPost_ret (results_cell_row rfl _ _ w.heap.size _ _ (0, 0) _ rfl hwh Tryz.underlying33 rfl (by kernel_rfl)) rfl ?_
   exact ⟨none, 0, 0, A1, 0, c1, rfl, ⟨World.ownsRow_nil _ _ _ _, rfl, Zj (Zz (Zz HO1.out HWB.out.1 (by omega)) HWB.out.2 (by omega)) (by omega)⟩, Below.trans (Grows.trans (Grows.trans (Zb _ _) (Zb _ _)) HB1.out) (Below.trans (Below.mono (HWB.out.1.below (by have := HR1.out.lt; omega)) (by omega)) (HWB.out.2.below (by have := HZV.out.lt; omega)))⟩
  ·have hadd : ad.add at0 = ⟨ad.block, ad.off + at0, none⟩ := by
    obtain ⟨k, rfl⟩ : ∃ k, at0 = k + 1 := ⟨at0 - 1, by omega⟩
    exact Zai ad k
   have p3 : ∀ w', Grows w w' → Sl w' (some (ad.add at0)) (n - at0) (c - at0) rest := fun w' hg => by
    have h := p2 w' hg
    rw [if_neg hac] at h
    rwa [hadd]
   clear hadd
   have P3 := hid p3
   clear p2 p3
   have hown := Y0 ((w.alloc (.cells #[.int .i64 0, .string ⟨#[]⟩, .int .i64 0, .int .i64 0, .int .i64 0, .slice none 0 0, .slice none 0 0] 33)).alloc (.cells #[.int .i64 3, .string ⟨ks.toArray⟩, .int .i64 0, .int .i64 0, .int .i64 0, .slice none 0 0, .slice none 0 0] 33))
   have hsz : ((w.alloc (.cells #[.int .i64 0, .string ⟨#[]⟩, .int .i64 0, .int .i64 0, .int .i64 0, .slice none 0 0, .slice none 0 0] 33)).alloc (.cells #[.int .i64 3, .string ⟨ks.toArray⟩, .int .i64 0, .int .i64 0, .int .i64 0, .slice none 0 0, .slice none 0 0] 33)).heap.size = w.heap.size + 1 + 1 := by simp
   rw [hsz] at hown
   have HOWN := hid hown
   have HBASE := hid (show w.heap.size + 1 + 1 ≤ (((w.alloc (.cells #[.int .i64 0, .string ⟨#[]⟩, .int .i64 0, .int .i64 0, .int .i64 0, .slice none 0 0, .slice none 0 0] 33)).alloc (.cells #[.int .i64 3, .string ⟨ks.toArray⟩, .int .i64 0, .int .i64 0, .int .i64 0, .slice none 0 0, .slice none 0 0] 33)).alloc (.cells #[] 5)).heap.size by rw [← hsz]; exact Z1 _ _)
   have HZ := hid ((Zb (w.alloc (.cells #[.int .i64 0, .string ⟨#[]⟩, .int .i64 0, .int .i64 0, .int .i64 0, .slice none 0 0, .slice none 0 0] 33)) (.cells #[.int .i64 3, .string ⟨ks.toArray⟩, .int .i64 0, .int .i64 0, .int .i64 0, .slice none 0 0, .slice none 0 0] 33)).whole (Whole.made w 33 #[.int .i64 0, .string ⟨#[]⟩, .int .i64 0, .int .i64 0, .int .i64 0, .slice none 0 0, .slice none 0 0]))
   have hr := Whole.made (w.alloc (.cells #[.int .i64 0, .string ⟨#[]⟩, .int .i64 0, .int .i64 0, .int .i64 0, .slice none 0 0, .slice none 0 0] 33)) 33 #[.int .i64 3, .string ⟨ks.toArray⟩, .int .i64 0, .int .i64 0, .int .i64 0, .slice none 0 0, .slice none 0 0]
   rw [World.size_alloc] at hr
   have HR := hid hr
   have HSZ := hid hsz
   clear hown hr hsz
   go_enter Tryz.func107, Tryz.ntmps107
   go_wp2_with (at_builtin
                first
                | (refine Y8 isSl_bytes isSl_bytes rfl (.tmp 66) (.tmp 69) rfl (base := w.heap.size + 1 + 1) rfl HOWN.out (A := some (ad.add at0)) (m := n - at0) (c := c - at0) rfl (P3.out _ (Grows.trans (Grows.trans (Zb _ _) (Zb _ _)) (Zb _ _))) (n - at0) (by omega) (by omega) HBASE.out ?_
                   intro A1 c1 w1 ho hb hst
                   have hb' : Grows ((w.alloc (.cells #[.int .i64 0, .string ⟨#[]⟩, .int .i64 0, .int .i64 0, .int .i64 0, .slice none 0 0, .slice none 0 0] 33)).alloc (.cells #[.int .i64 3, .string ⟨ks.toArray⟩, .int .i64 0, .int .i64 0, .int .i64 0, .slice none 0 0, .slice none 0 0] 33)) w1 := Below.trans (Zb _ _) (by rw [HSZ.out]; exact hb)
                   have hz1 := hb'.whole HZ.out
                   have hr1 := hb'.whole HR.out
                   have HZ1 := hid hz1
                   have HR1 := hid hr1
                   have HO1 := hid ho
                   have HB1 := hid hb'
                   have zc0 := hz1.cell 0
                   have zf0 := hz1.free 0
                   have zc1 := hz1.cell 1
                   have zf1 := hz1.free 1
                   have zc2 := hz1.cell 2
                   have zf2 := hz1.free 2
                   have zc3 := hz1.cell 3
                   have zf3 := hz1.free 3
                   have zc4 := hz1.cell 4
                   have zf4 := hz1.free 4
                   have zc5 := hz1.cell 5
                   have zf5 := hz1.free 5
                   have zc6 := hz1.cell 6
                   have zf6 := hz1.free 6
                   have rc0 := hr1.cell 0
                   have rf0 := hr1.free 0
                   have rc1 := hr1.cell 1
                   have rf1 := hr1.free 1
                   have rc2 := hr1.cell 2
                   have rf2 := hr1.free 2
                   have rc3 := hr1.cell 3
                   have rf3 := hr1.free 3
                   have rc4 := hr1.cell 4
                   have rf4 := hr1.free 4
                   have rc5 := hr1.cell 5
                   have rf5 := hr1.free 5
                   have rc6 := hr1.cell 6
                   have rf6 := hr1.free 6
                   simp only [Gt] at zc0 zc1 zc2 zc3 zc4 zc5 zc6 rc0 rc1 rc2 rc3 rc4 rc5 rc6
                   clear ho hb hst hb' hz1 hr1)
    )
   obtain ⟨V, hV⟩ : ∃ V, w1.setCell ⟨w.heap.size + 1, 6, none⟩ (.slice A1 (n - at0) c1) = V := ⟨_, rfl⟩
   rw [hV]
   have ht1 : Turns (w.heap.size + 1) w1 V := hV ▸ Turns.set 6 _
   have hzV := ht1.whole HZ1.out (by omega)
   obtain ⟨W, hW, hwh, hwt⟩ := Ya hzV (.int .i64 3) (.string ⟨ks.toArray⟩) (.int .i64 0) (.int .i64 0) (.int .i64 0) (.slice none 0 0) (.slice A1 (n - at0) c1)
   rw [hW]
   have HWB := hid (And.intro ht1 hwt)
   have HZV := hid hzV
   clear hW hwt hV ht1 hzV
   refine bodyPost_ret (results_cell_row rfl _ _ w.heap.size _ _ (0, 0) _ rfl hwh Tryz.underlying33 rfl (by kernel_rfl)) rfl ?_
   exact ⟨none, 0, 0, A1, n - at0, c1, rfl, ⟨World.ownsRow_nil _ _ _ _, rfl, Zj (Zz (Zz HO1.out HWB.out.1 (by omega)) HWB.out.2 (by omega)) (by omega)⟩, Below.trans (Grows.trans (Grows.trans (Zb _ _) (Zb _ _)) HB1.out) (Below.trans (Below.mono (HWB.out.1.below (by have := HR1.out.lt; omega)) (by omega)) (HWB.out.2.below (by have := HZV.out.lt; omega)))⟩
set_option maxRecDepth 100000 in
set_option maxHeartbeats 4000000 in
theorem Zi8 (ad : Addr) (n c : Nat) (b0 : UInt8) (xs : List UInt8) (w : World) (hs : Sl w (some ad) n c (b0 :: xs)) (hn : n ≤ 20000) (hk1 : b0.toNat ≠ 1) (hk4 : b0.toNat ≠ 4) (c0 : UInt8) (ys : List UInt8) (hx : xs = c0 :: ys) (hk3 : b0.toNat ≠ 3) (hl : ¬ ys.length < c0.toNat) (hsh : ys.length < c0.toNat + 11) :
 Calls Tryz.prog 107 #[.slice (some ad) n c] w fun e w' => ∃ LA ln lc BA bn bc, e = .returned (.agg #[.int .i64 (refP b0.toNat xs).kind, .string ⟨(refP b0.toNat xs).key.toArray⟩, .int .i64 (refP b0.toNat xs).id, .int .i64 (refP b0.toNat xs).no, .int .i64 (refP b0.toNat xs).size, .slice LA ln lc, .slice BA bn bc]) ∧ RcOwn w' w.heap.size LA ln lc BA bn bc (refP b0.toNat xs) ∧ Below w.heap.size w w' := by
 have hlen := hs.len
 have hcap := hs.cap
 simp only [List.length_cons] at hlen
 have hn0 : (0 : Int) < (n : Int) := by omega
 have hnn : 0 < n := by omega
 obtain ⟨_, e0, hab, hcell⟩ := hs.bytes.spot (k := 0) (by omega)
 injection e0 with e0
 subst e0
 simp only [List.getD_cons_zero, Addr.add_zero'] at hcell
 have hb0 := b0.toNat_lt
 have HS := Lib.hid hs
 clear hs
 have hk1i : ¬ (b0.toNat : Int) = 1 := by omega
 have hk4i : ¬ (b0.toNat : Int) = 4 := by omega
 subst hx
 simp only [List.length_cons] at hlen
 have hn2 : ¬ (n : Int) < 2 := by omega
 have hn1 : (1 : Int) < (n : Int) := by omega
 have hn1n : 1 < n := by omega
 obtain ⟨_, e1, hab1, hcell1⟩ := HS.out.bytes.spot (k := 1) (by omega)
 injection e1 with e1
 subst e1
 simp only [List.getD_cons_succ, List.getD_cons_zero, Zai] at hcell1
 have hc0 := c0.toNat_lt
 have hk3i : ¬ (b0.toNat : Int) = 3 := by omega
 obtain ⟨at0, hat⟩ : ∃ m, 2 + c0.toNat = m := ⟨_, rfl⟩
 have hwr : IntKind.i64.wrap (2 + (c0.toNat : Int)) = (at0 : Int) := by rw [IntWalk.i64_in _ (by omega)]; omega
 have hge : ¬ (n : Int) < (at0 : Int) := by omega
 have hle : (at0 : Int) ≤ (n : Int) := by omega
 have hlc : (at0 : Int) ≤ (c : Int) := by omega
 have h2a : (2 : Int) ≤ (at0 : Int) := by omega
 have hatn : at0 ≤ n := by omega
 have h2n : 2 ≤ at0 := by omega
 have q2 : (2 : Int) ≤ (c : Int) := by omega
 have hy : refP b0.toNat (c0 :: ys) = ⟨b0.toNat, ys.take c0.toNat, 0, 0, 0, [], []⟩ := by
  unfold refP
  rw [if_neg hk1i, if_neg hk4i]
  dsimp only
  rw [if_neg hl, if_neg hk3i, if_neg (by rw [List.length_drop]; omega)]
 rw [hy]
 dsimp only
 obtain ⟨ks, hks⟩ : ∃ ks, ys.take c0.toNat = ks := ⟨_, rfl⟩
 rw [hks]
 have p1 : ∀ w', Grows w w' → Sl w' (if c = 2 then some ad else some ⟨ad.block, ad.off + 2, none⟩) (at0 - 2) (c - 2) ks := fun w' hg => by
  by_cases h2c : c = 2
  ·have h := Sl.first (k := at0 - 2) (Sl.behind (k := 2) (HS.out.grow hg) (by omega)) (by omega)
   rw [if_pos h2c] at h
   rw [if_pos h2c]
   rw [← hks]
   simpa [show at0 - 2 = c0.toNat by omega] using h
  ·have h := Sl.part (k := 2) (m := at0) (HS.out.grow hg) (by omega) (by omega) h2c
   rw [if_neg h2c]
   rw [Zai, show at0 - 2 = c0.toNat by omega] at h
   rw [← hks, show at0 - 2 = c0.toNat by omega]
   simpa [← hat, show 2 + c0.toNat - 2 = c0.toNat by omega, show 2 + c0.toNat = c0.toNat + 1 + 1 by omega, List.take_succ_cons] using h
 have p2 : ∀ w', Grows w w' → Sl w' (if c = at0 then some ad else some ⟨ad.block, ad.off + at0, none⟩) (n - at0) (c - at0) (ys.drop c0.toNat) := fun w' hg => by
  have h := Sl.behind (k := at0) (HS.out.grow hg) (by omega)
  rw [show at0 = c0.toNat + 1 + 1 by omega] at *
  rw [Zai] at h
  simpa using h
 have hst := Zu (p1 ((w.alloc (.cells #[.int .i64 0, .string ⟨#[]⟩, .int .i64 0, .int .i64 0, .int .i64 0, .slice none 0 0, .slice none 0 0] 33)).alloc (.cells #[.int .i64 b0.toNat, .string ⟨#[]⟩, .int .i64 0, .int .i64 0, .int .i64 0, .slice none 0 0, .slice none 0 0] 33)) (Grows.trans (Zb _ _) (Zb _ _)))
 have hw11 : IntKind.i64.wrap ((at0 : Int) + 11) = (at0 : Int) + 11 := IntWalk.i64_in _ (by omega)
 have hn11 : ¬ (at0 : Int) + 11 ≤ (n : Int) := by omega
 have HL := Lib.hid (And.intro hlen (And.intro hat hl))
 clear hy p1 p2 hks hlen hat hl hsh
 by_cases h2c : c = 2
 ·obtain rfl : at0 = 2 := by omega
  obtain rfl : n = 2 := by omega
  subst h2c
  simp only [if_true, Nat.sub_self] at hst
  clear hw11 hn11
  go_enter Tryz.func107, Tryz.ntmps107
  go_wp2
  refine bodyPost_ret (results_cell_row rfl _ _ w.heap.size _ _ (0, 0) _ rfl ((Zb _ _).whole (Whole.made w 33 #[.int .i64 b0.toNat, .string ⟨ks.toArray⟩, .int .i64 0, .int .i64 0, .int .i64 0, .slice none 0 0, .slice none 0 0])) Tryz.underlying33 rfl (by kernel_rfl)) rfl ?_
  exact ⟨none, 0, 0, none, 0, 0, rfl, RcOwn.nil _ _ _ _ _ _ _, Grows.trans (Zb _ _) (Zb _ _)⟩
 ·simp only [if_neg h2c] at hst
  go_enter Tryz.func107, Tryz.ntmps107
  go_wp2
  refine bodyPost_ret (results_cell_row rfl _ _ w.heap.size _ _ (0, 0) _ rfl ((Zb _ _).whole (Whole.made w 33 #[.int .i64 b0.toNat, .string ⟨ks.toArray⟩, .int .i64 0, .int .i64 0, .int .i64 0, .slice none 0 0, .slice none 0 0])) Tryz.underlying33 rfl (by kernel_rfl)) rfl ?_
  exact ⟨none, 0, 0, none, 0, 0, rfl, RcOwn.nil _ _ _ _ _ _ _, Grows.trans (Zb _ _) (Zb _ _)⟩
end Go.Proofs.YtlldcogkcjnejaaGreat
