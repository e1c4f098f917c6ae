/-
  The walks of rec's piece, inline, tomb (of a source).
-/
import Derived.Test.YtmfhpfehphbklaaRcRest
import Derived.Test.YtmfhpfehphbklaaLocs
namespace Go.Proofs.Ytmfhpfehphbklaa
open Go.RowKit
set_option linter.unusedSimpArgs false

theorem Turns.whole {g k t : Nat} {w w' : World} {cs : Array Value} (h : Turns g w w') (hw : Whole w k t cs) (hk : k ≠ g) : Whole w' k t cs := by
  unfold Whole
  rw [h.block k hw.lt (fun e => hk (by injection e))]
  exact hw
theorem Low.turn {g : Nat} {w w' : World} {A : Option Addr} {n c : Nat} {bs : List UInt8} (h : Low w g A n c bs) (ht : Turns g w w') (hg : g ≤ w.heap.size) : Low w' g A n c bs := h.carry (ht.below hg)
theorem Turns.le {g : Nat} {w w' : World} (h : Turns g w w') : w.heap.size ≤ w'.heap.size := h.size
theorem Turns.then {g : Nat} {w w1 W : World} (h : Turns g w w1) (hb : Below w.heap.size w1 W) : Turns g w W :=
  ⟨hb.os.trans h.os, hb.tape.trans h.tape, hb.output.trans h.output, Nat.le_trans h.size hb.size, fun k hk hne => (hb.block k hk).trans (h.block k hk hne)⟩
theorem At.under {g k : Nat} {w W : World} {s : Src} (h : At w g s) (hb : Below k w W) (hk : g < k) : At W g s := by
  obtain ⟨A, n, c, hw, hl⟩ := h
  exact ⟨A, n, c, hw.below hb hk, hl.carry (Below.mono hb (Nat.le_of_lt hk))⟩
/-- A record whose memory is the call's own. -/
structure RcOwn (w : World) (base : Nat) (LA : Option Addr) (ln lc : Nat) (BA : Option Addr) (bn bc : Nat) (r : Rc) : Prop where
  locs : w.ownsRow base 67 3 (.slice LA ln lc) ln (lcCells r.locs)
  len : r.locs.length = ln
  b : w.ownsRow base 5 1 (.slice BA bn bc) bn (r.b.map byteV)
theorem RcOwn.inn {w : World} {base : Nat} {LA : Option Addr} {ln lc : Nat} {BA : Option Addr} {bn bc : Nat} {r : Rc} (h : RcOwn w base LA ln lc BA bn bc r) : RcIn w LA ln lc BA bn bc r := ⟨Locs.owned h.len h.locs, Sl.owned h.b⟩
theorem RcOwn.grow {w w' : World} {base : Nat} {LA : Option Addr} {ln lc : Nat} {BA : Option Addr} {bn bc : Nat} {r : Rc} (h : RcOwn w base LA ln lc BA bn bc r) (hg : Grows w w') : RcOwn w' base LA ln lc BA bn bc r := ⟨owned_grow h.locs hg, h.len, owned_grow h.b hg⟩
theorem RcOwn.nil (w : World) (base : Nat) (k : Int) (s : List UInt8) (id no size : Int) : RcOwn w base none 0 0 none 0 0 ⟨k, s, id, no, size, [], []⟩ := ⟨World.ownsRow_nil _ _ _ _, rfl, World.ownsRow_nil _ _ _ _⟩
/-- A record is stored, cell by cell. -/
theorem store7 {w : World} {k t : Nat} {u0 u1 u2 u3 u4 u5 u6 : Value} (h : Whole w k t #[u0, u1, u2, u3, u4, u5, u6]) (v0 v1 v2 v3 v4 v5 v6 : Value) :
    ∃ W, (((((((w.setCell ⟨k, 0, none⟩ v0).setCell ⟨k, 1, none⟩ v1).setCell ⟨k, 2, none⟩ v2).setCell ⟨k, 3, none⟩ v3).setCell ⟨k, 4, none⟩ v4).setCell ⟨k, 5, none⟩ v5).setCell ⟨k, 6, none⟩ v6) = W ∧ Whole W k t #[v0, v1, v2, v3, v4, v5, v6] ∧ Turns k w W :=
  ⟨_, rfl, by
    have hp := ((((((h.put 0 v0).put 1 v1).put 2 v2).put 3 v3).put 4 v4).put 5 v5).put 6 v6
    simp only [List.setIfInBounds_toArray, List.set_cons_zero, List.set_cons_succ] at hp
    exact hp, ((((((Turns.set 0 v0).trans (Turns.set 1 v1)).trans (Turns.set 2 v2)).trans (Turns.set 3 v3)).trans (Turns.set 4 v4)).trans (Turns.set 5 v5)).trans (Turns.set 6 v6)⟩
theorem owned_turn {k base : Nat} {w W : World} {e size : Nat} {v : Value} {n : Nat} {xs : List Value} (h : w.ownsRow base e size v n xs) (ht : Turns k w W) (hk : k < base) : W.ownsRow base e size v n xs :=
  h.kept ht (by
    rcases h.2 with ⟨rfl, _⟩ | ⟨g, cap, cur, rfl, hg, _⟩
    · exact .inl rfl
    · exact .inr (fun e => by simp [Value.ownBlock] at e; omega))
theorem RcOwn.turn {w W : World} {k base : Nat} {LA : Option Addr} {ln lc : Nat} {BA : Option Addr} {bn bc : Nat} {r : Rc} (h : RcOwn w base LA ln lc BA bn bc r) (ht : Turns k w W) (hk : k < base) : RcOwn W base LA ln lc BA bn bc r := ⟨owned_turn h.locs ht hk, h.len, owned_turn h.b ht hk⟩
theorem RcOwn.from {w : World} {b1 base : Nat} {LA : Option Addr} {ln lc : Nat} {BA : Option Addr} {bn bc : Nat} {r : Rc} (h : RcOwn w b1 LA ln lc BA bn bc r) (hb : base ≤ b1) : RcOwn w base LA ln lc BA bn bc r := ⟨owned_from h.locs hb, h.len, owned_from h.b hb⟩

set_option maxRecDepth 100000 in
set_option maxHeartbeats 4000000 in
theorem tomb_any (g : Nat) (s : Src) (w : World) (h : At w g s) (hs : s.1.length ≤ 140737488351232) :
    Calls Try.prog 79 #[.pointer (some ⟨g, 0, none⟩)] w fun e w' => ∃ LA ln lc BA bn bc, e = .returned (.agg #[.int .i64 0, .string ⟨(tombS s).1.key.toArray⟩, .int .i64 (tombS s).1.id, .int .i64 (tombS s).1.no, .int .i64 (tombS s).1.size, .slice LA ln lc, .slice BA bn bc]) ∧ RcOwn w' w.heap.size LA ln lc BA bn bc (tombS s).1 ∧ At w' g (tombS s).2 ∧ Turns g w w' := by
  have hg := h.lt
  have H1 := Lib.hid (rest_any g s (w.alloc (.cells #[.int .i64 0, .string ⟨#[]⟩, .int .i64 0, .int .i64 0, .int .i64 0, .slice none 0 0, .slice none 0 0] 78)) (h.up (grows_alloc _ _)) hs)
  have hz0 := Whole.made w 78 #[.int .i64 0, .string ⟨#[]⟩, .int .i64 0, .int .i64 0, .int .i64 0, .slice none 0 0, .slice none 0 0]
  have HZ := Lib.hid hz0
  clear h hz0
  unfold tombS
  dsimp only
  generalize restS s = r at *
  go_enter Try.func79, Try.ntmps79
  go_wp2_with (fail)
  refine H1.out.mono ?_
  rintro e w1 ⟨A, m, c, rfl, hl, ha, ht⟩
  have hst := run_string (hl.sl (Nat.le_of_lt ha.lt))
  have hz := ht.whole HZ.out (by omega)
  have HZ1 := Lib.hid hz
  have HA := Lib.hid (And.intro ha (Turns.trans (Turns.grow (grows_alloc _ _)) ht))
  have zc0 := hz.cell 0
  have zf0 := hz.free 0
  have zc1 := hz.cell 1
  have zf1 := hz.free 1
  have zc2 := hz.cell 2
  have zf2 := hz.free 2
  have zc3 := hz.cell 3
  have zf3 := hz.free 3
  have zc4 := hz.cell 4
  have zf4 := hz.free 4
  have zc5 := hz.cell 5
  have zf5 := hz.free 5
  have zc6 := hz.cell 6
  have zf6 := hz.free 6
  simp only [List.getElem?_toArray, List.getElem?_cons_zero, List.getElem?_cons_succ] at zc0 zc1 zc2 zc3 zc4 zc5 zc6
  clear hl ha ht hz
  go_wp2_with (fail)
  obtain ⟨W, hW, hwh, hwt⟩ := store7 HZ1.out (.int .i64 0) (.string ⟨r.1.toArray⟩) (.int .i64 0) (.int .i64 0) (.int .i64 0) (.slice none 0 0) (.slice none 0 0)
  rw [hW]
  have HWB := Lib.hid (And.intro hwt (hwt.below (by have := HZ1.out.lt; omega)))
  clear hW hwt
  refine bodyPost_ret (results_cell_row rfl _ _ w.heap.size _ _ (0, 0) _ rfl hwh Try.underlying78 rfl (by kernel_rfl)) rfl ?_
  exact ⟨none, 0, 0, none, 0, 0, rfl, RcOwn.nil _ _ _ _ _ _ _, HA.out.1.under HWB.out.2 hg, HA.out.2.then HWB.out.2⟩

set_option maxRecDepth 100000 in
set_option maxHeartbeats 4000000 in
theorem inline_any (g : Nat) (s : Src) (w : World) (h : At w g s) (hs : s.1.length ≤ 140737488351232) :
    Calls Try.prog 76 #[.pointer (some ⟨g, 0, none⟩)] w fun e w' => ∃ LA ln lc BA bn bc, e = .returned (.agg #[.int .i64 0, .string ⟨(inlineS s).1.key.toArray⟩, .int .i64 (inlineS s).1.id, .int .i64 (inlineS s).1.no, .int .i64 (inlineS s).1.size, .slice LA ln lc, .slice BA bn bc]) ∧ RcOwn w' w.heap.size LA ln lc BA bn bc (inlineS s).1 ∧ At w' g (inlineS s).2 ∧ Turns g w w' := by
  have hg := h.lt
  have hks : (keyS s).2.1.length ≤ s.1.length := Nat.le_trans (takeS_len _ _).2 (numS_len s 1)
  have H1 := Lib.hid (keyS_any g s (w.alloc (.cells #[.int .i64 0, .string ⟨#[]⟩, .int .i64 0, .int .i64 0, .int .i64 0, .slice none 0 0, .slice none 0 0] 78)) (h.up (grows_alloc _ _)) hs)
  have hr := fun (w1 : World) (h : At w1 g (keyS s).2) => rest_any g (keyS s).2 w1 h (by omega)
  have hrl : (restS (keyS s).2).1.length ≤ s.1.length := Nat.le_trans (takeS_len _ _).1 hks
  have HZ := Lib.hid (Whole.made w 78 #[.int .i64 0, .string ⟨#[]⟩, .int .i64 0, .int .i64 0, .int .i64 0, .slice none 0 0, .slice none 0 0])
  have HR := Lib.hid hr
  clear h hr
  unfold inlineS
  dsimp only
  generalize restS (keyS s).2 = r at *
  generalize keyS s = k at *
  go_enter Try.func76, Try.ntmps76
  go_wp2_with (fail)
  refine (H1.out).mono ?_
  rintro e w1 ⟨rfl, ha1, ht1⟩
  have HZ1 := Lib.hid (ht1.whole HZ.out (by omega))
  have HA1 := Lib.hid (And.intro ha1 (Turns.trans (Turns.grow (grows_alloc _ _)) ht1))
  clear ha1 ht1
  go_wp2_with (fail)
  refine (HR.out w1 HA1.out.1).mono ?_
  rintro e w2 ⟨A2, m2, c2, rfl, hl2, ha2, ht2⟩
  have hlen := Bytes.len hl2.bytes
  have HS2 := Lib.hid (hl2.sl (Nat.le_of_lt ha2.lt))
  have HA2 := Lib.hid (And.intro ha2 (HA1.out.2.trans ht2))
  have HZ2 := Lib.hid (ht2.whole HZ1.out (by omega))
  clear hl2 ha2 ht2
  go_wp2_with (fail)
  refine (rclone_any A2 m2 c2 _ w2 HS2.out (by omega)).mono ?_
  rintro e w3 ⟨A3, m3, c3, rfl, ho, hb⟩
  have hz := Grows.whole hb HZ2.out
  have HZ3 := Lib.hid hz
  have HA3 := Lib.hid (And.intro (HA2.out.1.up hb) (HA2.out.2.trans (Turns.grow hb)))
  have HO := Lib.hid (And.intro ho HZ2.out.lt)
  have zc0 := hz.cell 0
  have zf0 := hz.free 0
  have zc1 := hz.cell 1
  have zf1 := hz.free 1
  have zc2 := hz.cell 2
  have zf2 := hz.free 2
  have zc3 := hz.cell 3
  have zf3 := hz.free 3
  have zc4 := hz.cell 4
  have zf4 := hz.free 4
  have zc5 := hz.cell 5
  have zf5 := hz.free 5
  have zc6 := hz.cell 6
  have zf6 := hz.free 6
  simp only [List.getElem?_toArray, List.getElem?_cons_zero, List.getElem?_cons_succ] at zc0 zc1 zc2 zc3 zc4 zc5 zc6
  clear ho hb hz
  go_wp2_with (fail)
  obtain ⟨W, hW, hwh, hwt⟩ := store7 HZ3.out (.int .i64 0) (.string ⟨k.1.toArray⟩) (.int .i64 0) (.int .i64 0) (.int .i64 0) (.slice none 0 0) (.slice A3 m3 c3)
  rw [hW]
  have HWB := Lib.hid (And.intro hwt (hwt.below (by have := HZ3.out.lt; omega)))
  clear hW hwt
  refine bodyPost_ret (results_cell_row rfl _ _ w.heap.size _ _ (0, 0) _ rfl hwh Try.underlying78 rfl (by kernel_rfl)) rfl ?_
  exact ⟨none, 0, 0, A3, m3, c3, rfl, ⟨World.ownsRow_nil _ _ _ _, rfl, owned_from (owned_turn HO.out.1 HWB.out.1 HO.out.2) HA2.out.2.size⟩, HA3.out.1.under HWB.out.2 hg, HA3.out.2.then HWB.out.2⟩

set_option maxRecDepth 100000 in
set_option maxHeartbeats 4000000 in
theorem piece_any (g : Nat) (s : Src) (w : World) (h : At w g s) (hs : s.1.length ≤ 140737488351232) :
    Calls Try.prog 70 #[.pointer (some ⟨g, 0, none⟩)] w fun e w' => ∃ LA ln lc BA bn bc, e = .returned (.agg #[.int .i64 0, .string ⟨(pieceS s).1.key.toArray⟩, .int .i64 (pieceS s).1.id, .int .i64 (pieceS s).1.no, .int .i64 (pieceS s).1.size, .slice LA ln lc, .slice BA bn bc]) ∧ RcOwn w' w.heap.size LA ln lc BA bn bc (pieceS s).1 ∧ At w' g (pieceS s).2 ∧ Turns g w w' := by
  have hg := h.lt
  have h6 := numS_len s 6
  have h2 := numS_len (numS s 6).2 2
  have H1 := Lib.hid (num_any g s 6 (w.alloc (.cells #[.int .i64 0, .string ⟨#[]⟩, .int .i64 0, .int .i64 0, .int .i64 0, .slice none 0 0, .slice none 0 0] 78)) (h.up (grows_alloc _ _)) (by omega) hs)
  have H2 := Lib.hid (fun (w1 : World) (h : At w1 g (numS s 6).2) => num_any g (numS s 6).2 2 w1 h (by omega) (by omega))
  have hr := fun (w1 : World) (h : At w1 g (numS (numS s 6).2 2).2) => rest_any g (numS (numS s 6).2 2).2 w1 h (by omega)
  have hrl : (restS (numS (numS s 6).2 2).2).1.length ≤ s.1.length := Nat.le_trans (takeS_len _ _).1 (by omega)
  have HZ := Lib.hid (Whole.made w 78 #[.int .i64 0, .string ⟨#[]⟩, .int .i64 0, .int .i64 0, .int .i64 0, .slice none 0 0, .slice none 0 0])
  have HR := Lib.hid hr
  clear h hr h6 h2
  unfold pieceS
  dsimp only
  rw [show ((6 : Nat) : Int) = 6 from rfl] at H1
  rw [show ((2 : Nat) : Int) = 2 from rfl] at H2
  generalize restS (numS (numS s 6).2 2).2 = r at *
  generalize numS (numS s 6).2 2 = y at *
  generalize numS s 6 = x at *
  go_enter Try.func70, Try.ntmps70
  go_wp2_with (fail)
  refine (H1.out).mono ?_
  rintro e w1 ⟨rfl, ha1, ht1⟩
  have HZ1 := Lib.hid (ht1.whole HZ.out (by omega))
  have HA1 := Lib.hid (And.intro ha1 (Turns.trans (Turns.grow (grows_alloc _ _)) ht1))
  clear ha1 ht1
  go_wp2_with (fail)
  refine (H2.out w1 HA1.out.1).mono ?_
  rintro e w2 ⟨rfl, ha2, ht2⟩
  have HZ2 := Lib.hid (ht2.whole HZ1.out (by omega))
  have HA2 := Lib.hid (And.intro ha2 (HA1.out.2.trans ht2))
  clear ha2 ht2
  go_wp2_with (fail)
  refine (HR.out w2 HA2.out.1).mono ?_
  rintro e w3 ⟨A3, m3, c3, rfl, hl3, ha3, ht3⟩
  have hlen := Bytes.len hl3.bytes
  have HS3 := Lib.hid (hl3.sl (Nat.le_of_lt ha3.lt))
  have HA3 := Lib.hid (And.intro ha3 (HA2.out.2.trans ht3))
  have HZ3 := Lib.hid (ht3.whole HZ2.out (by omega))
  clear hl3 ha3 ht3
  go_wp2_with (fail)
  refine (rclone_any A3 m3 c3 _ w3 HS3.out (by omega)).mono ?_
  rintro e w4 ⟨A4, m4, c4, rfl, ho, hb⟩
  have hz := Grows.whole hb HZ3.out
  have HZ4 := Lib.hid hz
  have HA4 := Lib.hid (And.intro (HA3.out.1.up hb) (HA3.out.2.trans (Turns.grow hb)))
  have HO := Lib.hid (And.intro ho HZ3.out.lt)
  have zc0 := hz.cell 0
  have zf0 := hz.free 0
  have zc1 := hz.cell 1
  have zf1 := hz.free 1
  have zc2 := hz.cell 2
  have zf2 := hz.free 2
  have zc3 := hz.cell 3
  have zf3 := hz.free 3
  have zc4 := hz.cell 4
  have zf4 := hz.free 4
  have zc5 := hz.cell 5
  have zf5 := hz.free 5
  have zc6 := hz.cell 6
  have zf6 := hz.free 6
  simp only [List.getElem?_toArray, List.getElem?_cons_zero, List.getElem?_cons_succ] at zc0 zc1 zc2 zc3 zc4 zc5 zc6
  clear ho hb hz
  go_wp2_with (fail)
  obtain ⟨W, hW, hwh, hwt⟩ := store7 HZ4.out (.int .i64 0) (.string ⟨#[]⟩) (.int .i64 x.1) (.int .i64 y.1) (.int .i64 0) (.slice none 0 0) (.slice A4 m4 c4)
  rw [hW]
  have HWB := Lib.hid (And.intro hwt (hwt.below (by have := HZ4.out.lt; omega)))
  clear hW hwt
  refine bodyPost_ret (results_cell_row rfl _ _ w.heap.size _ _ (0, 0) _ rfl hwh Try.underlying78 rfl (by kernel_rfl)) rfl ?_
  exact ⟨none, 0, 0, A4, m4, c4, rfl, ⟨World.ownsRow_nil _ _ _ _, rfl, owned_from (owned_turn HO.out.1 HWB.out.1 HO.out.2) HA3.out.2.size⟩, HA4.out.1.under HWB.out.2 hg, HA4.out.2.then HWB.out.2⟩
end Go.Proofs.Ytmfhpfehphbklaa
