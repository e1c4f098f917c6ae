/-
  The walk of souterrainref04.get.
-/
import Derived.Test.YtmfhpfehphbklaaRcRefPlain
import Derived.Test.YtmfhpfehphbklaaRcUnnum
import Derived.Test.YtmfhpfehphbklaaRcGet
namespace Go.Proofs.Ytmfhpfehphbklaa
open Go.RowKit
set_option linter.unusedSimpArgs false
set_option linter.unusedVariables false

theorem Sl.behind {w : World} {ad : Addr} {n c k : Nat} {bs : List UInt8} (h : Sl w (some ad) n c bs) (hk : k ≤ n) : Sl w (if c = k then some ad else some (ad.add k)) (n - k) (c - k) (bs.drop k) := by
  have h2 := Row.behind (k := k) (cap := c) h.bytes hk h.cap
  refine ⟨?_, by have := h.cap; omega, fun e => by split at e <;> cases e⟩
  unfold Bytes
  rw [List.map_drop]
  simpa using h2
theorem add_at (ad : Addr) (k : Nat) : ad.add (k + 1) = ⟨ad.block, ad.off + (k + 1), none⟩ := Addr.add_succ' ad k

set_option maxRecDepth 100000 in
set_option maxHeartbeats 4000000 in
theorem refGet_piece (ad : Addr) (n c : Nat) (b0 : UInt8) (xs : List UInt8) (w : World) (hs : Sl w (some ad) n c (b0 :: xs)) (hn : n ≤ 20000) (hk : b0.toNat = 1) (h9 : 9 ≤ n) :
    Calls Try.prog 42 #[.slice (some ad) n c] w fun e w' => ∃ LA ln lc BA bn bc, e = .returned (.agg #[.int .i64 (refP b0.toNat xs).kind, .string ⟨(refP b0.toNat xs).key.toArray⟩, .int .i64 (refP b0.toNat xs).id, .int .i64 (refP b0.toNat xs).no, .int .i64 (refP b0.toNat xs).size, .slice LA ln lc, .slice BA bn bc]) ∧ RcOwn w' w.heap.size LA ln lc BA bn bc (refP b0.toNat xs) ∧ Below w.heap.size w w' := by
  have hlen := hs.len
  have hcap := hs.cap
  simp only [List.length_cons] at hlen
  have hn0 : (0 : Int) < (n : Int) := by omega
  have hnn : 0 < n := by omega
  obtain ⟨_, e0, hab, hcell⟩ := hs.bytes.spot (k := 0) (by omega)
  injection e0 with e0
  subst e0
  simp only [List.getD_cons_zero, Addr.add_zero'] at hcell
  have hb0 := b0.toNat_lt
  have HS := Lib.hid hs
  clear hs

  have hk1 : (b0.toNat : Int) = 1 := by omega
  have h9i : (9 : Int) ≤ (n : Int) := by omega
  have q1 : (1 : Int) ≤ (c : Int) := by omega
  have q7 : (7 : Int) ≤ (c : Int) := by omega
  have q9 : (9 : Int) ≤ (c : Int) := by omega
  have q9n : 9 ≤ c := by omega
  have nc1 : ¬ c = 1 := by omega
  have nc7 : ¬ c = 7 := by omega
  have p1 : ∀ w', Grows w w' → Sl w' (some ⟨ad.block, ad.off + 1, none⟩) 6 (c - 1) (xs.take 6) := fun w' hg => by
    have h := Sl.part (k := 1) (m := 7) (HS.out.grow hg) (by omega) (by omega) nc1
    rw [add_at] at h
    simpa [List.drop_take] using h
  have p2 : ∀ w', Grows w w' → Sl w' (some ⟨ad.block, ad.off + 7, none⟩) 2 (c - 7) ((xs.drop 6).take 2) := fun w' hg => by
    have h := Sl.part (k := 7) (m := 9) (HS.out.grow hg) (by omega) (by omega) nc7
    rw [add_at] at h
    simpa [List.drop_take] using h
  have p3 : ∀ w', Grows w w' → Sl w' (if c = 9 then some ad else some ⟨ad.block, ad.off + 9, none⟩) (n - 9) (c - 9) (xs.drop 8) := fun w' hg => by
    have h := Sl.behind (k := 9) (HS.out.grow hg) (by omega)
    rw [add_at] at h
    simpa using h
  have hy : refP b0.toNat xs = ⟨1, [], valB (xs.take 6), valB ((xs.drop 6).take 2), 0, [], xs.drop 8⟩ := by
    unfold refP
    rw [if_pos hk1, if_pos (by omega)]
  rw [hy]
  dsimp only
  obtain ⟨v1, hv1⟩ : ∃ v, valB (xs.take 6) = v := ⟨_, rfl⟩
  obtain ⟨v2, hv2⟩ : ∃ v, valB ((xs.drop 6).take 2) = v := ⟨_, rfl⟩
  rw [hv1, hv2]
  have HV := Lib.hid (And.intro hv1 hv2)
  clear hv1 hv2
  have HP := Lib.hid (And.intro p1 (And.intro p2 p3))
  clear p1 p2 p3 hy
  go_enter Try.func42, Try.ntmps42
  go_wp2_with (fail)
  refine (unnum_any _ 6 _ (xs.take 6) _ (HP.out.1 _ (Grows.trans (grows_alloc _ _) (grows_alloc _ _))) (by omega)).mono ?_
  rintro e w1 ⟨rfl, rfl⟩
  rw [HV.out.1]
  go_wp2_with (fail)
  refine (unnum_any _ 2 _ ((xs.drop 6).take 2) _ (HP.out.2.1 _ (Grows.trans (grows_alloc _ _) (grows_alloc _ _))) (by omega)).mono ?_
  rintro e w2 ⟨rfl, rfl⟩
  rw [HV.out.2]
  have hz := (grows_alloc (w.alloc (.cells #[.int .i64 0, .string ⟨#[]⟩, .int .i64 0, .int .i64 0, .int .i64 0, .slice none 0 0, .slice none 0 0] 25)) (.cells #[.int .i64 1, .string ⟨#[]⟩, .int .i64 v1, .int .i64 v2, .int .i64 0, .slice none 0 0, .slice none 0 0] 25)).whole (Whole.made w 25 #[.int .i64 0, .string ⟨#[]⟩, .int .i64 0, .int .i64 0, .int .i64 0, .slice none 0 0, .slice none 0 0])
  have hr := Whole.made (w.alloc (.cells #[.int .i64 0, .string ⟨#[]⟩, .int .i64 0, .int .i64 0, .int .i64 0, .slice none 0 0, .slice none 0 0] 25)) 25 #[.int .i64 1, .string ⟨#[]⟩, .int .i64 v1, .int .i64 v2, .int .i64 0, .slice none 0 0, .slice none 0 0]
  rw [World.size_alloc] at hr
  obtain ⟨U, hU⟩ : ∃ U, (w.alloc (.cells #[.int .i64 0, .string ⟨#[]⟩, .int .i64 0, .int .i64 0, .int .i64 0, .slice none 0 0, .slice none 0 0] 25)).alloc (.cells #[.int .i64 1, .string ⟨#[]⟩, .int .i64 v1, .int .i64 v2, .int .i64 0, .slice none 0 0, .slice none 0 0] 25) = U := ⟨_, rfl⟩
  have hgU : Grows w U := hU ▸ Grows.trans (grows_alloc _ _) (grows_alloc _ _)
  have hsz : U.heap.size = w.heap.size + 1 + 1 := by rw [← hU]; simp
  rw [hU] at hz hr
  have HZ := Lib.hid hz
  have HR := Lib.hid hr
  have HGU := Lib.hid hgU
  by_cases h9c : c = 9
  · obtain rfl : n = 9 := by omega
    have p3 : ∀ w', Grows w w' → Sl w' (some ad) 0 0 (xs.drop 8) := fun w' hg => by
      have h := HP.out.2.2 w' hg
      simpa [h9c] using h
    clear HP
    subst h9c
    have P3 := Lib.hid p3
    have hown := owned_none U
    rw [hsz] at hown
    have HOWN := Lib.hid hown
    have HBASE := Lib.hid (show w.heap.size + 1 + 1 ≤ (U.alloc (.cells #[] 5)).heap.size by rw [← hsz]; exact le_alloc _ _)
    clear p3 hown
    go_wp2_with (at_builtin
                 first
                 | (refine list_app isSl_bytes isSl_bytes rfl (.tmp 26) (.tmp 28) rfl (base := w.heap.size + 1 + 1) rfl HOWN.out (A := some ad) (m := 0) (c := 0) rfl (P3.out _ (Grows.trans HGU.out (grows_alloc _ _))) (0) (by omega) (by omega) HBASE.out ?_
                    intro A1 c1 w1 ho hb hst
                    have hb' : Grows U w1 := Below.trans (grows_alloc U _) (by rw [hsz]; exact hb)
                    have hz1 := hb'.whole HZ.out
                    have hr1 := hb'.whole HR.out
                    have HZ1 := Lib.hid hz1
                    have HR1 := Lib.hid hr1
                    have HO1 := Lib.hid ho
                    have HB1 := Lib.hid hb'
                    have zc0 := hz1.cell 0
                    have zf0 := hz1.free 0
                    have zc1 := hz1.cell 1
                    have zf1 := hz1.free 1
                    have zc2 := hz1.cell 2
                    have zf2 := hz1.free 2
                    have zc3 := hz1.cell 3
                    have zf3 := hz1.free 3
                    have zc4 := hz1.cell 4
                    have zf4 := hz1.free 4
                    have zc5 := hz1.cell 5
                    have zf5 := hz1.free 5
                    have zc6 := hz1.cell 6
                    have zf6 := hz1.free 6
                    have rc0 := hr1.cell 0
                    have rf0 := hr1.free 0
                    have rc1 := hr1.cell 1
                    have rf1 := hr1.free 1
                    have rc2 := hr1.cell 2
                    have rf2 := hr1.free 2
                    have rc3 := hr1.cell 3
                    have rf3 := hr1.free 3
                    have rc4 := hr1.cell 4
                    have rf4 := hr1.free 4
                    have rc5 := hr1.cell 5
                    have rf5 := hr1.free 5
                    have rc6 := hr1.cell 6
                    have rf6 := hr1.free 6
                    simp only [List.getElem?_toArray, List.getElem?_cons_zero, List.getElem?_cons_succ] at zc0 zc1 zc2 zc3 zc4 zc5 zc6 rc0 rc1 rc2 rc3 rc4 rc5 rc6
                    clear ho hb hst hb' hz1 hr1))
    obtain ⟨V, hV⟩ : ∃ V, w1.setCell ⟨w.heap.size + 1, 6, none⟩ (.slice A1 (0) c1) = V := ⟨_, rfl⟩
    rw [hV]
    have ht1 : Turns (w.heap.size + 1) w1 V := hV ▸ Turns.set 6 _
    have hzV := ht1.whole HZ1.out (by omega)
    obtain ⟨W, hW, hwh, hwt⟩ := store7 hzV (.int .i64 1) (.string ⟨#[]⟩) (.int .i64 v1) (.int .i64 v2) (.int .i64 0) (.slice none 0 0) (.slice A1 (0) c1)
    rw [hW]
    have HWB := Lib.hid (And.intro ht1 hwt)
    have HZV := Lib.hid hzV
    clear hW hwt hV ht1 hzV
    refine bodyPost_ret (results_cell_row rfl _ _ w.heap.size _ _ (0, 0) _ rfl hwh Try.underlying25 rfl (by kernel_rfl)) rfl ?_
    exact ⟨none, 0, 0, A1, 0, c1, rfl, ⟨World.ownsRow_nil _ _ _ _, rfl, owned_from (owned_turn (owned_turn HO1.out HWB.out.1 (by omega)) HWB.out.2 (by omega)) (by omega)⟩, Below.trans (Grows.trans HGU.out HB1.out) (Below.trans (Below.mono (HWB.out.1.below (by have := HR1.out.lt; omega)) (by omega)) (HWB.out.2.below (by have := HZV.out.lt; omega)))⟩
  · have p3 : ∀ w', Grows w w' → Sl w' (some ⟨ad.block, ad.off + 9, none⟩) (n - 9) (c - 9) (xs.drop 8) := fun w' hg => by
      have h := HP.out.2.2 w' hg
      simpa only [if_neg h9c] using h
    clear HP
    have P3 := Lib.hid p3
    have hown := owned_none U
    rw [hsz] at hown
    have HOWN := Lib.hid hown
    have HBASE := Lib.hid (show w.heap.size + 1 + 1 ≤ (U.alloc (.cells #[] 5)).heap.size by rw [← hsz]; exact le_alloc _ _)
    clear p3 hown
    go_wp2_with (at_builtin
                 first
                 | (refine list_app isSl_bytes isSl_bytes rfl (.tmp 26) (.tmp 28) rfl (base := w.heap.size + 1 + 1) rfl HOWN.out (A := some ⟨ad.block, ad.off + 9, none⟩) (m := n - 9) (c := c - 9) rfl (P3.out _ (Grows.trans HGU.out (grows_alloc _ _))) (n - 9) (by omega) (by omega) HBASE.out ?_
                    intro A1 c1 w1 ho hb hst
                    have hb' : Grows U w1 := Below.trans (grows_alloc U _) (by rw [hsz]; exact hb)
                    have hz1 := hb'.whole HZ.out
                    have hr1 := hb'.whole HR.out
                    have HZ1 := Lib.hid hz1
                    have HR1 := Lib.hid hr1
                    have HO1 := Lib.hid ho
                    have HB1 := Lib.hid hb'
                    have zc0 := hz1.cell 0
                    have zf0 := hz1.free 0
                    have zc1 := hz1.cell 1
                    have zf1 := hz1.free 1
                    have zc2 := hz1.cell 2
                    have zf2 := hz1.free 2
                    have zc3 := hz1.cell 3
                    have zf3 := hz1.free 3
                    have zc4 := hz1.cell 4
                    have zf4 := hz1.free 4
                    have zc5 := hz1.cell 5
                    have zf5 := hz1.free 5
                    have zc6 := hz1.cell 6
                    have zf6 := hz1.free 6
                    have rc0 := hr1.cell 0
                    have rf0 := hr1.free 0
                    have rc1 := hr1.cell 1
                    have rf1 := hr1.free 1
                    have rc2 := hr1.cell 2
                    have rf2 := hr1.free 2
                    have rc3 := hr1.cell 3
                    have rf3 := hr1.free 3
                    have rc4 := hr1.cell 4
                    have rf4 := hr1.free 4
                    have rc5 := hr1.cell 5
                    have rf5 := hr1.free 5
                    have rc6 := hr1.cell 6
                    have rf6 := hr1.free 6
                    simp only [List.getElem?_toArray, List.getElem?_cons_zero, List.getElem?_cons_succ] at zc0 zc1 zc2 zc3 zc4 zc5 zc6 rc0 rc1 rc2 rc3 rc4 rc5 rc6
                    clear ho hb hst hb' hz1 hr1))
    obtain ⟨V, hV⟩ : ∃ V, w1.setCell ⟨w.heap.size + 1, 6, none⟩ (.slice A1 (n - 9) c1) = V := ⟨_, rfl⟩
    rw [hV]
    have ht1 : Turns (w.heap.size + 1) w1 V := hV ▸ Turns.set 6 _
    have hzV := ht1.whole HZ1.out (by omega)
    obtain ⟨W, hW, hwh, hwt⟩ := store7 hzV (.int .i64 1) (.string ⟨#[]⟩) (.int .i64 v1) (.int .i64 v2) (.int .i64 0) (.slice none 0 0) (.slice A1 (n - 9) c1)
    rw [hW]
    have HWB := Lib.hid (And.intro ht1 hwt)
    have HZV := Lib.hid hzV
    clear hW hwt hV ht1 hzV
    refine bodyPost_ret (results_cell_row rfl _ _ w.heap.size _ _ (0, 0) _ rfl hwh Try.underlying25 rfl (by kernel_rfl)) rfl ?_
    exact ⟨none, 0, 0, A1, n - 9, c1, rfl, ⟨World.ownsRow_nil _ _ _ _, rfl, owned_from (owned_turn (owned_turn HO1.out HWB.out.1 (by omega)) HWB.out.2 (by omega)) (by omega)⟩, Below.trans (Grows.trans HGU.out HB1.out) (Below.trans (Below.mono (HWB.out.1.below (by have := HR1.out.lt; omega)) (by omega)) (HWB.out.2.below (by have := HZV.out.lt; omega)))⟩
end Go.Proofs.Ytmfhpfehphbklaa
