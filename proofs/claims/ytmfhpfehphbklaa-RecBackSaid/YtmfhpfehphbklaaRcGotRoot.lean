/-
  The walk of rec's root (of a source).
-/
import Derived.Test.YtmfhpfehphbklaaRcGotLocs
namespace Go.Proofs.Ytmfhpfehphbklaa
open Go.RowKit
set_option linter.unusedSimpArgs false

set_option maxRecDepth 100000 in
set_option maxHeartbeats 4000000 in
theorem root_any (g : Nat) (s : Src) (w : World) (h : At w g s) (hs : s.1.length ≤ 140737488351232) :
    Calls Try.prog 73 #[.pointer (some ⟨g, 0, none⟩)] w fun e w' => ∃ LA ln lc BA bn bc, e = .returned (.agg #[.int .i64 0, .string ⟨(rootS s).1.key.toArray⟩, .int .i64 (rootS s).1.id, .int .i64 (rootS s).1.no, .int .i64 (rootS s).1.size, .slice LA ln lc, .slice BA bn bc]) ∧ RcOwn w' w.heap.size LA ln lc BA bn bc (rootS s).1 ∧ At w' g (rootS s).2 ∧ Turns g w w' := by
  have hg := h.lt
  have hk := Nat.le_trans (takeS_len (numS s 1).2 (numS s 1).1).2 (numS_len s 1)
  have hks : (keyS s).2.1.length ≤ s.1.length := hk
  have h6 := numS_len (keyS s).2 6
  have h3 := numS_len (numS (keyS s).2 6).2 3
  have H1 := Lib.hid (keyS_any g s (w.alloc (.cells #[.int .i64 0, .string ⟨#[]⟩, .int .i64 0, .int .i64 0, .int .i64 0, .slice none 0 0, .slice none 0 0] 78)) (h.up (grows_alloc _ _)) hs)
  have H2 := Lib.hid (fun (w1 : World) (h : At w1 g (keyS s).2) => num_any g (keyS s).2 6 w1 h (by omega) (by omega))
  have H3 := Lib.hid (fun (w1 : World) (h : At w1 g (numS (keyS s).2 6).2) => num_any g (numS (keyS s).2 6).2 3 w1 h (by omega) (by omega))
  have H4 := Lib.hid (fun (w1 : World) (h : At w1 g (numS (numS (keyS s).2 6).2 3).2) => locsS_any g (numS (numS (keyS s).2 6).2 3).2 w1 h (by omega))
  have HZ := Lib.hid (Whole.made w 78 #[.int .i64 0, .string ⟨#[]⟩, .int .i64 0, .int .i64 0, .int .i64 0, .slice none 0 0, .slice none 0 0])
  clear h h6 h3 hk hks
  unfold rootS
  dsimp only
  rw [show ((6 : Nat) : Int) = 6 from rfl] at H2
  rw [show ((3 : Nat) : Int) = 3 from rfl] at H3
  generalize locsS (numS (numS (keyS s).2 6).2 3).2 = r at *
  generalize numS (numS (keyS s).2 6).2 3 = y at *
  generalize numS (keyS s).2 6 = x at *
  generalize keyS s = k at *
  go_enter Try.func73, Try.ntmps73
  go_wp2_with (fail)
  refine (H1.out).mono ?_
  rintro e w1 ⟨rfl, ha1, ht1⟩
  have HZ1 := Lib.hid (ht1.whole HZ.out (by omega))
  have HA1 := Lib.hid (And.intro ha1 (Turns.trans (Turns.grow (grows_alloc _ _)) ht1))
  clear ha1 ht1
  go_wp2_with (fail)
  refine (H2.out w1 HA1.out.1).mono ?_
  rintro e w2 ⟨rfl, ha2, ht2⟩
  have HZ2 := Lib.hid (ht2.whole HZ1.out (by omega))
  have HA2 := Lib.hid (And.intro ha2 (HA1.out.2.trans ht2))
  clear ha2 ht2
  go_wp2_with (fail)
  refine (H3.out w2 HA2.out.1).mono ?_
  rintro e w3 ⟨rfl, ha3, ht3⟩
  have HZ3 := Lib.hid (ht3.whole HZ2.out (by omega))
  have HA3 := Lib.hid (And.intro ha3 (HA2.out.2.trans ht3))
  clear ha3 ht3
  go_wp2_with (fail)
  refine (H4.out w3 HA3.out.1).mono ?_
  rintro e w4 ⟨A4, m4, c4, rfl, ho4, hn4, ha4, ht4⟩
  have hz := ht4.whole HZ3.out (by omega)
  have HZ4 := Lib.hid hz
  have HA4 := Lib.hid (And.intro ha4 (HA3.out.2.trans ht4))
  have HO := Lib.hid (And.intro ho4 (And.intro HZ3.out.lt hn4))
  have zc0 := hz.cell 0
  have zf0 := hz.free 0
  have zc1 := hz.cell 1
  have zf1 := hz.free 1
  have zc2 := hz.cell 2
  have zf2 := hz.free 2
  have zc3 := hz.cell 3
  have zf3 := hz.free 3
  have zc4 := hz.cell 4
  have zf4 := hz.free 4
  have zc5 := hz.cell 5
  have zf5 := hz.free 5
  have zc6 := hz.cell 6
  have zf6 := hz.free 6
  simp only [List.getElem?_toArray, List.getElem?_cons_zero, List.getElem?_cons_succ] at zc0 zc1 zc2 zc3 zc4 zc5 zc6
  clear ho4 hn4 ha4 ht4 hz
  go_wp2_with (fail)
  obtain ⟨W, hW, hwh, hwt⟩ := store7 HZ4.out (.int .i64 0) (.string ⟨k.1.toArray⟩) (.int .i64 x.1) (.int .i64 0) (.int .i64 y.1) (.slice A4 m4 c4) (.slice none 0 0)
  rw [hW]
  have HWB := Lib.hid (And.intro hwt (hwt.below (by have := HZ4.out.lt; omega)))
  clear hW hwt
  refine bodyPost_ret (results_cell_row rfl _ _ w.heap.size _ _ (0, 0) _ rfl hwh Try.underlying78 rfl (by kernel_rfl)) rfl ?_
  exact ⟨A4, m4, c4, none, 0, 0, rfl, ⟨owned_from (owned_turn HO.out.1 HWB.out.1 HO.out.2.1) HA3.out.2.size, HO.out.2.2, World.ownsRow_nil _ _ _ _⟩, HA4.out.1.under HWB.out.2 hg, HA4.out.2.then HWB.out.2⟩
end Go.Proofs.Ytmfhpfehphbklaa
