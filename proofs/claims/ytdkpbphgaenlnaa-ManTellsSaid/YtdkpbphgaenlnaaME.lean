/-
  Texts that the statements' proofs lean on, one behind the other.
-/
import Derived.Test.YtdkpbphgaenlnaaMD
import Derived.Lib.LazyBuf
import Derived.Laws.AppendOwn
import Derived.Deep.RegionHeld3
import Derived.Test.YtdkpbphgaenlnaaMJ
/-
  The walks of rec's rest, usedUp, key (of a source), and of bytes.Clone.
-/
namespace Go.Proofs.Ytdkpbphgaenlnaa
open Go.RowKit
set_option linter.unusedSimpArgs false

theorem takeS_len (s : Src) (n : Int) : (takeS s n).1.length ≤ s.1.length ∧ (takeS s n).2.1.length ≤ s.1.length := by
  unfold takeS
  split
  · simp
  · simp; omega
theorem numS_len (s : Src) (n : Int) : (numS s n).2.1.length ≤ s.1.length := (takeS_len s n).2
theorem numS_nat (s : Src) (n : Int) : ∃ k : Nat, (numS s n).1 = (k : Int) := ⟨(valB (takeS s n).1).toNat, by have := (valB_lt (takeS s n).1).1; show valB _ = _; omega⟩
theorem numS_lt (s : Src) (k : Nat) (h : k ≤ 6) : (numS s (k : Int)).1 < 281474976710656 := (valB_small _ (by
  unfold takeS
  split
  · simp
  · simp; omega)).2
theorem At.up {w w' : World} {g : Nat} {s : Src} (h : At w g s) (hg : Grows w w') : At w' g s := by
  obtain ⟨A, n, c, hw, hl⟩ := h
  exact ⟨A, n, c, hg.whole hw, hl.carry (Below.mono hg (Nat.le_of_lt hw.lt))⟩
theorem At.lt {w : World} {g : Nat} {s : Src} (h : At w g s) : g < w.heap.size := by
  obtain ⟨A, n, c, hw, hl⟩ := h
  exact hw.lt

theorem rest_any (g : Nat) (s : Src) (w : World) (h : At w g s) (hs : s.1.length ≤ 140737488351232) :
    Calls Try.prog 151 #[.pointer (some ⟨g, 0, none⟩)] w fun e w' => ∃ A m c, e = .returned (.slice A m c) ∧ Low w' g A m c (restS s).1 ∧ At w' g (restS s).2 ∧ Turns g w w' := by
  have HT := Lib.hid (take_any g s s.1.length w h (by omega) hs)
  obtain ⟨A, m, c, hw, hl⟩ := h
  have c0 := hw.cell 0
  simp only [List.getElem?_toArray, List.getElem?_cons_zero, List.getElem?_cons_succ] at c0
  have hlen := Bytes.len hl.bytes
  unfold restS
  rw [hlen]
  rw [hlen] at HT
  clear hw hl
  go_enter Try.func151, Try.ntmps151
  go_wp2_with (fail)
  refine HT.out.mono ?_
  rintro e w1 ⟨A1, m1, c1, rfl, hr⟩
  have HR := Lib.hid hr
  clear hr
  go_wp2_with (fail)
  go_ret
  exact ⟨A1, m1, c1, rfl, HR.out⟩

theorem usedUp_any (g : Nat) (s : Src) (w : World) (h : At w g s) :
    Calls Try.prog 104 #[.pointer (some ⟨g, 0, none⟩)] w fun e w' => e = .returned (.bool (decide (s.2 = false ∧ s.1 = []))) ∧ w = w' := by
  obtain ⟨A, m, c, hw, hl⟩ := h
  have c0 := hw.cell 0
  have c1 := hw.cell 1
  simp only [List.getElem?_toArray, List.getElem?_cons_zero, List.getElem?_cons_succ] at c0 c1
  have hlen := Bytes.len hl.bytes
  obtain ⟨bs, short⟩ := s
  dsimp only at *
  have hm : (m = 0) ↔ bs = [] := by rw [← hlen]; exact List.length_eq_zero_iff
  clear hw hl
  cases short with
  | true =>
    go_enter Try.func104, Try.ntmps104
    go_wp2_with (fail)
    go_ret
    exact ⟨rfl, rfl⟩
  | false =>
    have HM := Lib.hid hm
    clear hm
    go_enter Try.func104, Try.ntmps104
    go_wp2_with (fail)
    go_ret
    refine ⟨ret_bool ?_, rfl⟩
    rw [Bool.eq_iff_iff]
    have := HM.out
    simp [← this]

theorem rclone_any (A : Option Addr) (n c : Nat) (bs : List UInt8) (w : World) (hs : Sl w A n c bs) (hn : n ≤ 140737488351232) :
    Calls Try.prog 79 #[.slice A n c] w fun e w' => ∃ A' m c', e = .returned (.slice A' m c') ∧ w'.ownsRow w.heap.size 5 1 (.slice A' m c') m (bs.map byteV) ∧ Below w.heap.size w w' := by
  have HS := Lib.hid hs
  have hlen := hs.len
  have heq := fun (a : Option Addr) (l c : Nat) (w : World) => Go.run_eql_slice_nil (P := Try.prog) w 25 5 a l c Try.underlying25
  clear hs
  cases A with
  | none =>
    have hc := HS.out.bare rfl
    have hcap := HS.out.cap
    have hb : bs = [] := List.eq_nil_of_length_eq_zero (by omega)
    subst hb
    go_enter Try.func79, Try.ntmps79
    go_wp2_with (fail)
    go_ret
    exact ⟨none, 0, 0, rfl, World.ownsRow_nil _ _ _ _, Below.refl _ _⟩
  | some ad =>
    go_enter Try.func79, Try.ntmps79
    go_wp2_with (at_builtin
                 refine list_app isSl_bytes isSl_bytes rfl (.tmp 5) (.tmp 6) rfl (base := w.heap.size) rfl (owned_none w) rfl (HS.out.alloc _) n (Nat.zero_add n) hn (le_alloc _ _) ?_
                 intro A2 c2 w2 ho2 hb2 hs2
                 have HO2 := Lib.hid ho2
                 have HB2 := Lib.hid (Below.trans (grows_alloc w _) hb2)
                 clear ho2 hb2 hs2)
    go_ret
    exact ⟨A2, n, c2, rfl, by simpa using HO2.out, HB2.out⟩

theorem keyS_any (g : Nat) (s : Src) (w : World) (h : At w g s) (hs : s.1.length ≤ 140737488351232) :
    Calls Try.prog 155 #[.pointer (some ⟨g, 0, none⟩)] w fun e w' => e = .returned (.string ⟨(keyS s).1.toArray⟩) ∧ At w' g (keyS s).2 ∧ Turns g w w' := by
  have h1 := num_any g s 1 w h (by omega) hs
  have h2 := fun w1 (h : At w1 g (numS s 1).2) (n : Nat) (hn : n ≤ 9223372036854775807) => take_any g (numS s 1).2 n w1 h hn (Nat.le_trans (numS_len s 1) hs)
  have hlt := numS_lt s 1 (by omega)
  obtain ⟨k, hk⟩ := numS_nat s 1
  unfold keyS
  rw [show ((1 : Nat) : Int) = 1 from rfl] at h1 hlt
  rw [hk] at h1 hlt
  rw [hk]
  generalize (numS s 1).2 = s1 at *
  have H1 := Lib.hid h1
  have H2 := Lib.hid h2
  clear h1 h2 h hk
  go_enter Try.func155, Try.ntmps155
  go_wp2_with (fail)
  refine H1.out.mono ?_
  rintro e w1 ⟨rfl, ha, ht⟩
  have HA := Lib.hid (And.intro ha ht)
  clear ha ht
  go_wp2_with (fail)
  refine (H2.out w1 HA.out.1 k (by omega)).mono ?_
  rintro e w2 ⟨A, m, c, rfl, hl, ha2, ht2⟩
  have hst := run_string (hl.sl (Nat.le_of_lt ha2.lt))
  have HA2 := Lib.hid (And.intro ha2 (HA.out.2.trans ht2))
  clear hl ha2 ht2
  go_wp2_with (fail)
  go_ret
  exact ⟨rfl, HA2.out⟩
end Go.Proofs.Ytdkpbphgaenlnaa

/-
  The walks of rec's piece, inline, tomb (of a source).
-/
namespace Go.Proofs.Ytdkpbphgaenlnaa
open Go.RowKit
set_option linter.unusedSimpArgs false

theorem Turns.whole {g k t : Nat} {w w' : World} {cs : Array Value} (h : Turns g w w') (hw : Whole w k t cs) (hk : k ≠ g) : Whole w' k t cs := by
  unfold Whole
  rw [h.block k hw.lt (fun e => hk (by injection e))]
  exact hw
theorem Low.turn {g : Nat} {w w' : World} {A : Option Addr} {n c : Nat} {bs : List UInt8} (h : Low w g A n c bs) (ht : Turns g w w') (hg : g ≤ w.heap.size) : Low w' g A n c bs := h.carry (ht.below hg)
theorem Turns.le {g : Nat} {w w' : World} (h : Turns g w w') : w.heap.size ≤ w'.heap.size := h.size
theorem Turns.then {g : Nat} {w w1 W : World} (h : Turns g w w1) (hb : Below w.heap.size w1 W) : Turns g w W :=
  ⟨hb.os.trans h.os, hb.tape.trans h.tape, hb.output.trans h.output, Nat.le_trans h.size hb.size, fun k hk hne => (hb.block k hk).trans (h.block k hk hne)⟩
theorem At.under {g k : Nat} {w W : World} {s : Src} (h : At w g s) (hb : Below k w W) (hk : g < k) : At W g s := by
  obtain ⟨A, n, c, hw, hl⟩ := h
  exact ⟨A, n, c, hw.below hb hk, hl.carry (Below.mono hb (Nat.le_of_lt hk))⟩
/-- A record whose memory is the call's own. -/
structure RcOwn (w : World) (base : Nat) (LA : Option Addr) (ln lc : Nat) (BA : Option Addr) (bn bc : Nat) (r : Rc) : Prop where
  locs : w.ownsRow base 116 3 (.slice LA ln lc) ln (lcCells r.locs)
  len : r.locs.length = ln
  b : w.ownsRow base 5 1 (.slice BA bn bc) bn (r.b.map byteV)
theorem RcOwn.inn {w : World} {base : Nat} {LA : Option Addr} {ln lc : Nat} {BA : Option Addr} {bn bc : Nat} {r : Rc} (h : RcOwn w base LA ln lc BA bn bc r) : RcIn w LA ln lc BA bn bc r := ⟨Locs.owned h.len h.locs, Sl.owned h.b⟩
theorem RcOwn.grow {w w' : World} {base : Nat} {LA : Option Addr} {ln lc : Nat} {BA : Option Addr} {bn bc : Nat} {r : Rc} (h : RcOwn w base LA ln lc BA bn bc r) (hg : Grows w w') : RcOwn w' base LA ln lc BA bn bc r := ⟨owned_grow h.locs hg, h.len, owned_grow h.b hg⟩
theorem RcOwn.nil (w : World) (base : Nat) (k : Int) (s : List UInt8) (id no size : Int) : RcOwn w base none 0 0 none 0 0 ⟨k, s, id, no, size, [], []⟩ := ⟨World.ownsRow_nil _ _ _ _, rfl, World.ownsRow_nil _ _ _ _⟩
/-- A record is stored, cell by cell. -/
theorem store7 {w : World} {k t : Nat} {u0 u1 u2 u3 u4 u5 u6 : Value} (h : Whole w k t #[u0, u1, u2, u3, u4, u5, u6]) (v0 v1 v2 v3 v4 v5 v6 : Value) :
    ∃ W, (((((((w.setCell ⟨k, 0, none⟩ v0).setCell ⟨k, 1, none⟩ v1).setCell ⟨k, 2, none⟩ v2).setCell ⟨k, 3, none⟩ v3).setCell ⟨k, 4, none⟩ v4).setCell ⟨k, 5, none⟩ v5).setCell ⟨k, 6, none⟩ v6) = W ∧ Whole W k t #[v0, v1, v2, v3, v4, v5, v6] ∧ Turns k w W :=
  ⟨_, rfl, by
    have hp := ((((((h.put 0 v0).put 1 v1).put 2 v2).put 3 v3).put 4 v4).put 5 v5).put 6 v6
    simp only [List.setIfInBounds_toArray, List.set_cons_zero, List.set_cons_succ] at hp
    exact hp, ((((((Turns.set 0 v0).trans (Turns.set 1 v1)).trans (Turns.set 2 v2)).trans (Turns.set 3 v3)).trans (Turns.set 4 v4)).trans (Turns.set 5 v5)).trans (Turns.set 6 v6)⟩
theorem owned_turn {k base : Nat} {w W : World} {e size : Nat} {v : Value} {n : Nat} {xs : List Value} (h : w.ownsRow base e size v n xs) (ht : Turns k w W) (hk : k < base) : W.ownsRow base e size v n xs :=
  h.kept ht (by
    rcases h.2 with ⟨rfl, _⟩ | ⟨g, cap, cur, rfl, hg, _⟩
    · exact .inl rfl
    · exact .inr (fun e => by simp [Value.ownBlock] at e; omega))
theorem RcOwn.turn {w W : World} {k base : Nat} {LA : Option Addr} {ln lc : Nat} {BA : Option Addr} {bn bc : Nat} {r : Rc} (h : RcOwn w base LA ln lc BA bn bc r) (ht : Turns k w W) (hk : k < base) : RcOwn W base LA ln lc BA bn bc r := ⟨owned_turn h.locs ht hk, h.len, owned_turn h.b ht hk⟩
theorem RcOwn.from {w : World} {b1 base : Nat} {LA : Option Addr} {ln lc : Nat} {BA : Option Addr} {bn bc : Nat} {r : Rc} (h : RcOwn w b1 LA ln lc BA bn bc r) (hb : base ≤ b1) : RcOwn w base LA ln lc BA bn bc r := ⟨owned_from h.locs hb, h.len, owned_from h.b hb⟩

set_option maxRecDepth 100000 in
set_option maxHeartbeats 4000000 in
theorem tomb_any (g : Nat) (s : Src) (w : World) (h : At w g s) (hs : s.1.length ≤ 140737488351232) :
    Calls Try.prog 131 #[.pointer (some ⟨g, 0, none⟩)] w fun e w' => ∃ LA ln lc BA bn bc, e = .returned (.agg #[.int .i64 0, .string ⟨(tombS s).1.key.toArray⟩, .int .i64 (tombS s).1.id, .int .i64 (tombS s).1.no, .int .i64 (tombS s).1.size, .slice LA ln lc, .slice BA bn bc]) ∧ RcOwn w' w.heap.size LA ln lc BA bn bc (tombS s).1 ∧ At w' g (tombS s).2 ∧ Turns g w w' := by
  have hg := h.lt
  have H1 := Lib.hid (rest_any g s (w.alloc (.cells #[.int .i64 0, .string ⟨#[]⟩, .int .i64 0, .int .i64 0, .int .i64 0, .slice none 0 0, .slice none 0 0] 158)) (h.up (grows_alloc _ _)) hs)
  have hz0 := Whole.made w 158 #[.int .i64 0, .string ⟨#[]⟩, .int .i64 0, .int .i64 0, .int .i64 0, .slice none 0 0, .slice none 0 0]
  have HZ := Lib.hid hz0
  clear h hz0
  unfold tombS
  dsimp only
  generalize restS s = r at *
  go_enter Try.func131, Try.ntmps131
  go_wp2_with (fail)
  refine H1.out.mono ?_
  rintro e w1 ⟨A, m, c, rfl, hl, ha, ht⟩
  have hst := run_string (hl.sl (Nat.le_of_lt ha.lt))
  have hz := ht.whole HZ.out (by omega)
  have HZ1 := Lib.hid hz
  have HA := Lib.hid (And.intro ha (Turns.trans (Turns.grow (grows_alloc _ _)) ht))
  have zc0 := hz.cell 0
  have zf0 := hz.free 0
  have zc1 := hz.cell 1
  have zf1 := hz.free 1
  have zc2 := hz.cell 2
  have zf2 := hz.free 2
  have zc3 := hz.cell 3
  have zf3 := hz.free 3
  have zc4 := hz.cell 4
  have zf4 := hz.free 4
  have zc5 := hz.cell 5
  have zf5 := hz.free 5
  have zc6 := hz.cell 6
  have zf6 := hz.free 6
  simp only [List.getElem?_toArray, List.getElem?_cons_zero, List.getElem?_cons_succ] at zc0 zc1 zc2 zc3 zc4 zc5 zc6
  clear hl ha ht hz
  go_wp2_with (fail)
  obtain ⟨W, hW, hwh, hwt⟩ := store7 HZ1.out (.int .i64 0) (.string ⟨r.1.toArray⟩) (.int .i64 0) (.int .i64 0) (.int .i64 0) (.slice none 0 0) (.slice none 0 0)
  rw [hW]
  have HWB := Lib.hid (And.intro hwt (hwt.below (by have := HZ1.out.lt; omega)))
  clear hW hwt
  refine bodyPost_ret (results_cell_row rfl _ _ w.heap.size _ _ (0, 0) _ rfl hwh Try.underlying158 rfl (by kernel_rfl)) rfl ?_
  exact ⟨none, 0, 0, none, 0, 0, rfl, RcOwn.nil _ _ _ _ _ _ _, HA.out.1.under HWB.out.2 hg, HA.out.2.then HWB.out.2⟩

set_option maxRecDepth 100000 in
set_option maxHeartbeats 4000000 in
theorem inline_any (g : Nat) (s : Src) (w : World) (h : At w g s) (hs : s.1.length ≤ 140737488351232) :
    Calls Try.prog 128 #[.pointer (some ⟨g, 0, none⟩)] w fun e w' => ∃ LA ln lc BA bn bc, e = .returned (.agg #[.int .i64 0, .string ⟨(inlineS s).1.key.toArray⟩, .int .i64 (inlineS s).1.id, .int .i64 (inlineS s).1.no, .int .i64 (inlineS s).1.size, .slice LA ln lc, .slice BA bn bc]) ∧ RcOwn w' w.heap.size LA ln lc BA bn bc (inlineS s).1 ∧ At w' g (inlineS s).2 ∧ Turns g w w' := by
  have hg := h.lt
  have hks : (keyS s).2.1.length ≤ s.1.length := Nat.le_trans (takeS_len _ _).2 (numS_len s 1)
  have H1 := Lib.hid (keyS_any g s (w.alloc (.cells #[.int .i64 0, .string ⟨#[]⟩, .int .i64 0, .int .i64 0, .int .i64 0, .slice none 0 0, .slice none 0 0] 158)) (h.up (grows_alloc _ _)) hs)
  have hr := fun (w1 : World) (h : At w1 g (keyS s).2) => rest_any g (keyS s).2 w1 h (by omega)
  have hrl : (restS (keyS s).2).1.length ≤ s.1.length := Nat.le_trans (takeS_len _ _).1 hks
  have HZ := Lib.hid (Whole.made w 158 #[.int .i64 0, .string ⟨#[]⟩, .int .i64 0, .int .i64 0, .int .i64 0, .slice none 0 0, .slice none 0 0])
  have HR := Lib.hid hr
  clear h hr
  unfold inlineS
  dsimp only
  generalize restS (keyS s).2 = r at *
  generalize keyS s = k at *
  go_enter Try.func128, Try.ntmps128
  go_wp2_with (fail)
  refine (H1.out).mono ?_
  rintro e w1 ⟨rfl, ha1, ht1⟩
  have HZ1 := Lib.hid (ht1.whole HZ.out (by omega))
  have HA1 := Lib.hid (And.intro ha1 (Turns.trans (Turns.grow (grows_alloc _ _)) ht1))
  clear ha1 ht1
  go_wp2_with (fail)
  refine (HR.out w1 HA1.out.1).mono ?_
  rintro e w2 ⟨A2, m2, c2, rfl, hl2, ha2, ht2⟩
  have hlen := Bytes.len hl2.bytes
  have HS2 := Lib.hid (hl2.sl (Nat.le_of_lt ha2.lt))
  have HA2 := Lib.hid (And.intro ha2 (HA1.out.2.trans ht2))
  have HZ2 := Lib.hid (ht2.whole HZ1.out (by omega))
  clear hl2 ha2 ht2
  go_wp2_with (fail)
  refine (rclone_any A2 m2 c2 _ w2 HS2.out (by omega)).mono ?_
  rintro e w3 ⟨A3, m3, c3, rfl, ho, hb⟩
  have hz := Grows.whole hb HZ2.out
  have HZ3 := Lib.hid hz
  have HA3 := Lib.hid (And.intro (HA2.out.1.up hb) (HA2.out.2.trans (Turns.grow hb)))
  have HO := Lib.hid (And.intro ho HZ2.out.lt)
  have zc0 := hz.cell 0
  have zf0 := hz.free 0
  have zc1 := hz.cell 1
  have zf1 := hz.free 1
  have zc2 := hz.cell 2
  have zf2 := hz.free 2
  have zc3 := hz.cell 3
  have zf3 := hz.free 3
  have zc4 := hz.cell 4
  have zf4 := hz.free 4
  have zc5 := hz.cell 5
  have zf5 := hz.free 5
  have zc6 := hz.cell 6
  have zf6 := hz.free 6
  simp only [List.getElem?_toArray, List.getElem?_cons_zero, List.getElem?_cons_succ] at zc0 zc1 zc2 zc3 zc4 zc5 zc6
  clear ho hb hz
  go_wp2_with (fail)
  obtain ⟨W, hW, hwh, hwt⟩ := store7 HZ3.out (.int .i64 0) (.string ⟨k.1.toArray⟩) (.int .i64 0) (.int .i64 0) (.int .i64 0) (.slice none 0 0) (.slice A3 m3 c3)
  rw [hW]
  have HWB := Lib.hid (And.intro hwt (hwt.below (by have := HZ3.out.lt; omega)))
  clear hW hwt
  refine bodyPost_ret (results_cell_row rfl _ _ w.heap.size _ _ (0, 0) _ rfl hwh Try.underlying158 rfl (by kernel_rfl)) rfl ?_
  exact ⟨none, 0, 0, A3, m3, c3, rfl, ⟨World.ownsRow_nil _ _ _ _, rfl, owned_from (owned_turn HO.out.1 HWB.out.1 HO.out.2) HA2.out.2.size⟩, HA3.out.1.under HWB.out.2 hg, HA3.out.2.then HWB.out.2⟩

set_option maxRecDepth 100000 in
set_option maxHeartbeats 4000000 in
theorem piece_any (g : Nat) (s : Src) (w : World) (h : At w g s) (hs : s.1.length ≤ 140737488351232) :
    Calls Try.prog 122 #[.pointer (some ⟨g, 0, none⟩)] w fun e w' => ∃ LA ln lc BA bn bc, e = .returned (.agg #[.int .i64 0, .string ⟨(pieceS s).1.key.toArray⟩, .int .i64 (pieceS s).1.id, .int .i64 (pieceS s).1.no, .int .i64 (pieceS s).1.size, .slice LA ln lc, .slice BA bn bc]) ∧ RcOwn w' w.heap.size LA ln lc BA bn bc (pieceS s).1 ∧ At w' g (pieceS s).2 ∧ Turns g w w' := by
  have hg := h.lt
  have h6 := numS_len s 6
  have h2 := numS_len (numS s 6).2 2
  have H1 := Lib.hid (num_any g s 6 (w.alloc (.cells #[.int .i64 0, .string ⟨#[]⟩, .int .i64 0, .int .i64 0, .int .i64 0, .slice none 0 0, .slice none 0 0] 158)) (h.up (grows_alloc _ _)) (by omega) hs)
  have H2 := Lib.hid (fun (w1 : World) (h : At w1 g (numS s 6).2) => num_any g (numS s 6).2 2 w1 h (by omega) (by omega))
  have hr := fun (w1 : World) (h : At w1 g (numS (numS s 6).2 2).2) => rest_any g (numS (numS s 6).2 2).2 w1 h (by omega)
  have hrl : (restS (numS (numS s 6).2 2).2).1.length ≤ s.1.length := Nat.le_trans (takeS_len _ _).1 (by omega)
  have HZ := Lib.hid (Whole.made w 158 #[.int .i64 0, .string ⟨#[]⟩, .int .i64 0, .int .i64 0, .int .i64 0, .slice none 0 0, .slice none 0 0])
  have HR := Lib.hid hr
  clear h hr h6 h2
  unfold pieceS
  dsimp only
  rw [show ((6 : Nat) : Int) = 6 from rfl] at H1
  rw [show ((2 : Nat) : Int) = 2 from rfl] at H2
  generalize restS (numS (numS s 6).2 2).2 = r at *
  generalize numS (numS s 6).2 2 = y at *
  generalize numS s 6 = x at *
  go_enter Try.func122, Try.ntmps122
  go_wp2_with (fail)
  refine (H1.out).mono ?_
  rintro e w1 ⟨rfl, ha1, ht1⟩
  have HZ1 := Lib.hid (ht1.whole HZ.out (by omega))
  have HA1 := Lib.hid (And.intro ha1 (Turns.trans (Turns.grow (grows_alloc _ _)) ht1))
  clear ha1 ht1
  go_wp2_with (fail)
  refine (H2.out w1 HA1.out.1).mono ?_
  rintro e w2 ⟨rfl, ha2, ht2⟩
  have HZ2 := Lib.hid (ht2.whole HZ1.out (by omega))
  have HA2 := Lib.hid (And.intro ha2 (HA1.out.2.trans ht2))
  clear ha2 ht2
  go_wp2_with (fail)
  refine (HR.out w2 HA2.out.1).mono ?_
  rintro e w3 ⟨A3, m3, c3, rfl, hl3, ha3, ht3⟩
  have hlen := Bytes.len hl3.bytes
  have HS3 := Lib.hid (hl3.sl (Nat.le_of_lt ha3.lt))
  have HA3 := Lib.hid (And.intro ha3 (HA2.out.2.trans ht3))
  have HZ3 := Lib.hid (ht3.whole HZ2.out (by omega))
  clear hl3 ha3 ht3
  go_wp2_with (fail)
  refine (rclone_any A3 m3 c3 _ w3 HS3.out (by omega)).mono ?_
  rintro e w4 ⟨A4, m4, c4, rfl, ho, hb⟩
  have hz := Grows.whole hb HZ3.out
  have HZ4 := Lib.hid hz
  have HA4 := Lib.hid (And.intro (HA3.out.1.up hb) (HA3.out.2.trans (Turns.grow hb)))
  have HO := Lib.hid (And.intro ho HZ3.out.lt)
  have zc0 := hz.cell 0
  have zf0 := hz.free 0
  have zc1 := hz.cell 1
  have zf1 := hz.free 1
  have zc2 := hz.cell 2
  have zf2 := hz.free 2
  have zc3 := hz.cell 3
  have zf3 := hz.free 3
  have zc4 := hz.cell 4
  have zf4 := hz.free 4
  have zc5 := hz.cell 5
  have zf5 := hz.free 5
  have zc6 := hz.cell 6
  have zf6 := hz.free 6
  simp only [List.getElem?_toArray, List.getElem?_cons_zero, List.getElem?_cons_succ] at zc0 zc1 zc2 zc3 zc4 zc5 zc6
  clear ho hb hz
  go_wp2_with (fail)
  obtain ⟨W, hW, hwh, hwt⟩ := store7 HZ4.out (.int .i64 0) (.string ⟨#[]⟩) (.int .i64 x.1) (.int .i64 y.1) (.int .i64 0) (.slice none 0 0) (.slice A4 m4 c4)
  rw [hW]
  have HWB := Lib.hid (And.intro hwt (hwt.below (by have := HZ4.out.lt; omega)))
  clear hW hwt
  refine bodyPost_ret (results_cell_row rfl _ _ w.heap.size _ _ (0, 0) _ rfl hwh Try.underlying158 rfl (by kernel_rfl)) rfl ?_
  exact ⟨none, 0, 0, A4, m4, c4, rfl, ⟨World.ownsRow_nil _ _ _ _, rfl, owned_from (owned_turn HO.out.1 HWB.out.1 HO.out.2) HA3.out.2.size⟩, HA4.out.1.under HWB.out.2 hg, HA4.out.2.then HWB.out.2⟩
end Go.Proofs.Ytdkpbphgaenlnaa

/-
  The walk of rec's locs (of a source).
-/
namespace Go.Proofs.Ytdkpbphgaenlnaa
open Go.RowKit
set_option linter.unusedSimpArgs false

theorem infoLoc : (Try.prog.info? 116).map (fun i => (i.zero, i.size, i.bytes)) = some (some (.agg #[.int .i64 0, .int .i64 0, .int .i64 0]), 3, 24) := by kernel_rfl
theorem lcV_at {w : World} {g ty : Nat} {l : Lc} (hw : Whole w g ty #[.int .i64 l.1, .int .i64 l.2.1, .int .i64 l.2.2]) : ∀ j u, (lcV l)[j]? = some u → w.cell? ((⟨g, 0, none⟩ : Addr).add j) = some u := by
  intro j u hj
  rw [show (⟨g, 0, none⟩ : Addr).add j = ⟨g, j, none⟩ by unfold Addr.add; split <;> simp_all, hw.cell j]
  simpa [lcV] using hj
theorem lcV_one (l : Lc) : ∀ u ∈ lcV l, u.oneCell' = true := by
  intro u hu
  simp only [lcV, List.mem_cons, List.not_mem_nil, or_false] at hu
  rcases hu with rfl | rfl | rfl <;> rfl
theorem rcslice_own {w : World} {base : Nat} {e : TypeId} {size : Nat} {v : Value} {n : Nat} {xs : List Value} (h : w.ownsRow base e size v n xs) : ∃ A c, v = .slice A n c := by
  rcases h.2 with ⟨rfl, rfl⟩ | ⟨g, cap, _, rfl, _⟩
  · exact ⟨none, 0, rfl⟩
  · exact ⟨_, cap, rfl⟩
section
variable {ops : Array Oper} {rest : List Oper} {o : Oper} {a : Act} {w : World} {Q : Exit → Act → World → Prop}
/-- 'append(s, x)' of one place, s the call's own. -/
theorem list_append_loc (hgd : o.guard = none) (s x : Operand) (ho : o.op = .call { callee := .builtin .append, args := #[s, x], argTypes := #[57, 57] })
    {base : Nat} {LA : Option Addr} {n lc : Nat} {ts : List Lc} (hs : a.eval s = .slice LA n lc) (hown : w.ownsRow base 116 3 (.slice LA n lc) n (lcCells ts))
    {g ty : Nat} (t : Lc) (hx : a.eval x = .slice (some ⟨g, 0, none⟩) 1 1) (hw : Whole w g ty #[.int .i64 t.1, .int .i64 t.2.1, .int .i64 t.2.2]) (hn : n ≤ 1000000) (hbase : base ≤ w.heap.size)
    (hk : ∀ A' c' w', w'.ownsRow base 116 3 (.slice A' (n + 1) c') (n + 1) (lcCells (ts ++ [t])) → Below base w w' → wpList Try.prog ops Q rest (a.put o.dst (.slice A' (n + 1) c')) w') : wpList Try.prog ops Q (o :: rest) a w := by
  obtain ⟨i0, hi, hz0, hz1, hz2⟩ := info_parts infoLoc
  refine wpList_append_own w hgd s x 57 ho base 116 i0 _ 3 24 Try.underlying57 hi hz0 hz1 hz2 rfl (by decide) (.slice LA n lc) n (lcCells ts) hs hown ⟨g, 0, none⟩ 1 1 (lcV t) hx rfl (lcV_at hw) (lcV_one t) (by unfold maxLen; omega) (by omega) hbase fun v' w' h1 h2 _ => ?_
  obtain ⟨A', c', rfl⟩ := rcslice_own h1
  rw [show lcCells ts ++ lcV t = lcCells (ts ++ [t]) by rw [lcCells_append]; simp [lcCells]] at h1
  exact hk A' c' w' h1 ((Below.refl _ w).grown h2 hbase fun k hk => (hown.lt k hk).1)
end

theorem numS_two (s : Src) : (numS s 2).1 < 65536 := by
  have h := valB_lt (takeS s 2).1
  have hl : (takeS s 2).1.length ≤ 2 := by
    unfold takeS
    split
    · simp
    · simp; omega
  unfold numS
  dsimp only
  obtain e | e | e : (takeS s 2).1.length = 0 ∨ (takeS s 2).1.length = 1 ∨ (takeS s 2).1.length = 2 := by omega
  all_goals
    rw [e] at h
    simp at h
    omega
theorem locsL_stop {k : Nat} {s : Src} {acc : List Lc} (h : (locS s).2.2 = true) : locsL (k + 1) s acc = ([], (locS s).2) := by
  rw [locsL, if_pos h]
theorem locsL_go {k : Nat} {s : Src} {acc : List Lc} (h : (locS s).2.2 = false) : locsL (k + 1) s acc = locsL k (locS s).2 (acc ++ [(locS s).1]) := by
  rw [locsL, if_neg (by rw [h]; simp)]
theorem locS_len (s : Src) : (locS s).2.1.length ≤ s.1.length := Nat.le_trans (numS_len _ _) (Nat.le_trans (numS_len _ _) (numS_len _ _))

set_option maxRecDepth 100000 in
set_option maxHeartbeats 8000000 in
theorem locsS_any (g : Nat) (s : Src) (w : World) (h : At w g s) (hs : s.1.length ≤ 140737488351232) :
    Calls Try.prog 156 #[.pointer (some ⟨g, 0, none⟩)] w fun e w' => ∃ A n c, e = .returned (.slice A n c) ∧ w'.ownsRow w.heap.size 116 3 (.slice A n c) n (lcCells (locsS s).1) ∧ (locsS s).1.length = n ∧ At w' g (locsS s).2 ∧ Turns g w w' := by
  have hg := h.lt
  have h1 := num_any g s 2 w h (by omega) hs
  have hlt := numS_two s
  have hsl := numS_len s 2
  obtain ⟨N, hN⟩ := numS_nat s 2
  unfold locsS
  rw [show ((2 : Nat) : Int) = 2 from rfl] at h1
  rw [hN] at h1 hlt
  rw [hN, Int.toNat_natCast]
  generalize (numS s 2).2 = s1 at *
  have H1 := Lib.hid h1
  have hN2 : N ≤ 65536 := by omega
  clear h1 h hN hlt
  obtain ⟨R, hR⟩ : ∃ R, locsL N s1 [] = R := ⟨_, rfl⟩
  rw [hR]
  have HR := Lib.hid hR
  clear hR
  go_enter Try.func156, Try.ntmps156
  go_wp2_with (fail)
  refine H1.out.mono ?_
  rintro e w1 ⟨rfl, ha, ht⟩
  have HA := Lib.hid (And.intro ha ht)
  clear ha ht
  go_wp2_with (fail)
  go_loopw [3, 7] (fun a i wr => ∃ (A : Option Addr) (c k n : Nat) (s' : Src) (acc : List Lc), k ≤ N ∧ n ≤ k ∧ i = .int .i64 (k : Nat) ∧ a = .slice A n c ∧ Hid (acc.length = n ∧ locsL (N - k) s' acc = R) ∧ Hid (At wr g s' ∧ s'.1.length ≤ s.1.length) ∧ Hid (wr.ownsRow w.heap.size 116 3 (.slice A n c) n (lcCells acc)) ∧ Hid (Turns g w wr)) (fun _ i _ => N - (intOf i).toNat)
  case atStart => exact ⟨none, 0, 0, 0, s1, [], by omega, by omega, rfl, rfl, Lib.hid ⟨rfl, by simpa using HR.out⟩, Lib.hid ⟨HA.out.1, hsl⟩, Lib.hid (World.ownsRow_nil _ _ _ _), Lib.hid HA.out.2⟩
  case round =>
    obtain ⟨A, c, k, n, s', acc, hk, hnk, rfl, rfl, HE, HS, HO, HT⟩ := hrel
    by_cases hlt : k < N
    · have hq : N - k = (N - (k + 1)) + 1 := by omega
      have he0 := HE.out.2
      rw [hq] at he0
      have he : ((locS s').2.2 = true → ([], (locS s').2) = R) ∧ ((locS s').2.2 = false → locsL (N - (k + 1)) (locS s').2 (acc ++ [(locS s').1]) = R) := ⟨fun h => (locsL_stop h).symm.trans he0, fun h => (locsL_go h).symm.trans he0⟩
      clear he0
      have hle := locS_len s'
      have hl0 := HS.out.2
      have l1 := numS_len s' 4
      have l2 := numS_len (numS s' 4).2 4
      have C1 := Lib.hid (num_any g s' 4 wr HS.out.1 (by omega) (by omega))
      have C2 := Lib.hid (fun (w2 : World) (h : At w2 g (numS s' 4).2) => num_any g (numS s' 4).2 4 w2 h (by omega) (by omega))
      have C3 := Lib.hid (fun (w2 : World) (h : At w2 g (numS (numS s' 4).2 4).2) => num_any g (numS (numS s' 4).2 4).2 2 w2 h (by omega) (by omega))
      rw [show ((4 : Nat) : Int) = 4 from rfl] at C1 C2
      rw [show ((2 : Nat) : Int) = 2 from rfl] at C3
      unfold locS at he hle
      dsimp only at he hle
      generalize numS (numS (numS s' 4).2 4).2 2 = z at *
      generalize numS (numS s' 4).2 4 = y at *
      generalize numS s' 4 = x at *
      obtain ⟨z0, zs, zb⟩ := z
      dsimp only at he hle C3
      have HE2 := Lib.hid he
      have k0 : (k : Int) < (N : Int) := by omega
      have HLE := Lib.hid hle
      clear he hle hq l1 l2 hl0
      go_wp2_with (fail)
      refine C1.out.mono ?_
      rintro e w2 ⟨rfl, ha2, ht2⟩
      have HA2 := Lib.hid (And.intro ha2 ht2)
      clear ha2 ht2
      go_wp2_with (fail)
      refine (C2.out w2 HA2.out.1).mono ?_
      rintro e w3 ⟨rfl, ha3, ht3⟩
      have HA3 := Lib.hid (And.intro ha3 (HA2.out.2.trans ht3))
      clear ha3 ht3
      go_wp2_with (fail)
      refine (C3.out w3 HA3.out.1).mono ?_
      rintro e w4 ⟨rfl, ha4, ht4⟩
      have HA4 := Lib.hid (And.intro ha4 (HA3.out.2.trans ht4))
      have hlt4 := ha4.lt
      obtain ⟨A4, n4, c4, hw4, hl4⟩ := ha4
      have d1 := hw4.cell 1
      simp only [List.getElem?_toArray, List.getElem?_cons_zero, List.getElem?_cons_succ] at d1
      have hsz4 : w.heap.size ≤ w4.heap.size := Nat.le_trans HT.out.size HA4.out.2.size
      have HO4 := Lib.hid (owned_turn HO.out HA4.out.2 hg)
      clear hw4 hl4 ht4
      cases zb with
      | true =>
        go_wp2_with (fail)
        go_ret
        have he := HE2.out.1 (by simp)
        subst he
        exact ⟨none, 0, 0, rfl, World.ownsRow_nil _ _ _ _, rfl, HA4.out.1.up (grows_alloc _ _), (HT.out.trans HA4.out.2).trans (Turns.grow (grows_alloc _ _))⟩
      | false =>
        have hx5 := Whole.made w4 116 #[.int .i64 x.1, .int .i64 y.1, .int .i64 z0]
        have hx6 := Whole.made (w4.alloc (.cells #[.int .i64 x.1, .int .i64 y.1, .int .i64 z0] 116)) 116 #[.int .i64 x.1, .int .i64 y.1, .int .i64 z0]
        rw [World.size_alloc] at hx6
        have HX := Lib.hid hx6
        have HG6 := Lib.hid (Grows.trans (grows_alloc w4 (.cells #[.int .i64 x.1, .int .i64 y.1, .int .i64 z0] 116)) (grows_alloc _ (.cells #[.int .i64 x.1, .int .i64 y.1, .int .i64 z0] 116)))
        clear hx5 hx6
        go_wp2_with (at_builtin
                     refine list_append_loc rfl (.tmp 20) (.tmp 22) rfl (base := w.heap.size) rfl (owned_grow HO4.out HG6.out) (x.1, y.1, z0) rfl HX.out (by omega) (Nat.le_trans hsz4 HG6.out.size) ?_
                     intro A7 c7 w7 ho7 hb7
                     have HO7 := Lib.hid ho7
                     have HB7 := Lib.hid hb7
                     clear ho7 hb7)
        go_roundw
        case rel =>
          have he := HE2.out.2 (by simp)
          refine ⟨A7, c7, k + 1, n + 1, (zs, false), acc ++ [(x.1, y.1, z0)], by omega, by omega, by go_num, rfl, Lib.hid ⟨by rw [List.length_append, HE.out.1]; rfl, he⟩, Lib.hid ⟨?_, Nat.le_trans HLE.out HS.out.2⟩, HO7, Lib.hid ?_⟩
          · exact (HA4.out.1.up HG6.out).under HB7.out hg
          · exact ((HT.out.trans HA4.out.2).trans (Turns.grow HG6.out)).then HB7.out
        case measure => simp [intOf]; omega
    · obtain rfl : k = N := by omega
      have he := HE.out.2
      rw [Nat.sub_self, locsL] at he
      have hn := HE.out.1
      subst he hn
      go_wp2_with (fail)
      go_ret
      exact ⟨A, acc.length, c, rfl, HO.out, rfl, HS.out.1, HT.out⟩
end Go.Proofs.Ytdkpbphgaenlnaa

/-
  The walk of rec's root (of a source).
-/
namespace Go.Proofs.Ytdkpbphgaenlnaa
open Go.RowKit
set_option linter.unusedSimpArgs false

set_option maxRecDepth 100000 in
set_option maxHeartbeats 4000000 in
theorem root_any (g : Nat) (s : Src) (w : World) (h : At w g s) (hs : s.1.length ≤ 140737488351232) :
    Calls Try.prog 125 #[.pointer (some ⟨g, 0, none⟩)] w fun e w' => ∃ LA ln lc BA bn bc, e = .returned (.agg #[.int .i64 0, .string ⟨(rootS s).1.key.toArray⟩, .int .i64 (rootS s).1.id, .int .i64 (rootS s).1.no, .int .i64 (rootS s).1.size, .slice LA ln lc, .slice BA bn bc]) ∧ RcOwn w' w.heap.size LA ln lc BA bn bc (rootS s).1 ∧ At w' g (rootS s).2 ∧ Turns g w w' := by
  have hg := h.lt
  have hk := Nat.le_trans (takeS_len (numS s 1).2 (numS s 1).1).2 (numS_len s 1)
  have hks : (keyS s).2.1.length ≤ s.1.length := hk
  have h6 := numS_len (keyS s).2 6
  have h3 := numS_len (numS (keyS s).2 6).2 3
  have H1 := Lib.hid (keyS_any g s (w.alloc (.cells #[.int .i64 0, .string ⟨#[]⟩, .int .i64 0, .int .i64 0, .int .i64 0, .slice none 0 0, .slice none 0 0] 158)) (h.up (grows_alloc _ _)) hs)
  have H2 := Lib.hid (fun (w1 : World) (h : At w1 g (keyS s).2) => num_any g (keyS s).2 6 w1 h (by omega) (by omega))
  have H3 := Lib.hid (fun (w1 : World) (h : At w1 g (numS (keyS s).2 6).2) => num_any g (numS (keyS s).2 6).2 3 w1 h (by omega) (by omega))
  have H4 := Lib.hid (fun (w1 : World) (h : At w1 g (numS (numS (keyS s).2 6).2 3).2) => locsS_any g (numS (numS (keyS s).2 6).2 3).2 w1 h (by omega))
  have HZ := Lib.hid (Whole.made w 158 #[.int .i64 0, .string ⟨#[]⟩, .int .i64 0, .int .i64 0, .int .i64 0, .slice none 0 0, .slice none 0 0])
  clear h h6 h3 hk hks
  unfold rootS
  dsimp only
  rw [show ((6 : Nat) : Int) = 6 from rfl] at H2
  rw [show ((3 : Nat) : Int) = 3 from rfl] at H3
  generalize locsS (numS (numS (keyS s).2 6).2 3).2 = r at *
  generalize numS (numS (keyS s).2 6).2 3 = y at *
  generalize numS (keyS s).2 6 = x at *
  generalize keyS s = k at *
  go_enter Try.func125, Try.ntmps125
  go_wp2_with (fail)
  refine (H1.out).mono ?_
  rintro e w1 ⟨rfl, ha1, ht1⟩
  have HZ1 := Lib.hid (ht1.whole HZ.out (by omega))
  have HA1 := Lib.hid (And.intro ha1 (Turns.trans (Turns.grow (grows_alloc _ _)) ht1))
  clear ha1 ht1
  go_wp2_with (fail)
  refine (H2.out w1 HA1.out.1).mono ?_
  rintro e w2 ⟨rfl, ha2, ht2⟩
  have HZ2 := Lib.hid (ht2.whole HZ1.out (by omega))
  have HA2 := Lib.hid (And.intro ha2 (HA1.out.2.trans ht2))
  clear ha2 ht2
  go_wp2_with (fail)
  refine (H3.out w2 HA2.out.1).mono ?_
  rintro e w3 ⟨rfl, ha3, ht3⟩
  have HZ3 := Lib.hid (ht3.whole HZ2.out (by omega))
  have HA3 := Lib.hid (And.intro ha3 (HA2.out.2.trans ht3))
  clear ha3 ht3
  go_wp2_with (fail)
  refine (H4.out w3 HA3.out.1).mono ?_
  rintro e w4 ⟨A4, m4, c4, rfl, ho4, hn4, ha4, ht4⟩
  have hz := ht4.whole HZ3.out (by omega)
  have HZ4 := Lib.hid hz
  have HA4 := Lib.hid (And.intro ha4 (HA3.out.2.trans ht4))
  have HO := Lib.hid (And.intro ho4 (And.intro HZ3.out.lt hn4))
  have zc0 := hz.cell 0
  have zf0 := hz.free 0
  have zc1 := hz.cell 1
  have zf1 := hz.free 1
  have zc2 := hz.cell 2
  have zf2 := hz.free 2
  have zc3 := hz.cell 3
  have zf3 := hz.free 3
  have zc4 := hz.cell 4
  have zf4 := hz.free 4
  have zc5 := hz.cell 5
  have zf5 := hz.free 5
  have zc6 := hz.cell 6
  have zf6 := hz.free 6
  simp only [List.getElem?_toArray, List.getElem?_cons_zero, List.getElem?_cons_succ] at zc0 zc1 zc2 zc3 zc4 zc5 zc6
  clear ho4 hn4 ha4 ht4 hz
  go_wp2_with (fail)
  obtain ⟨W, hW, hwh, hwt⟩ := store7 HZ4.out (.int .i64 0) (.string ⟨k.1.toArray⟩) (.int .i64 x.1) (.int .i64 0) (.int .i64 y.1) (.slice A4 m4 c4) (.slice none 0 0)
  rw [hW]
  have HWB := Lib.hid (And.intro hwt (hwt.below (by have := HZ4.out.lt; omega)))
  clear hW hwt
  refine bodyPost_ret (results_cell_row rfl _ _ w.heap.size _ _ (0, 0) _ rfl hwh Try.underlying158 rfl (by kernel_rfl)) rfl ?_
  exact ⟨A4, m4, c4, none, 0, 0, rfl, ⟨owned_from (owned_turn HO.out.1 HWB.out.1 HO.out.2.1) HA3.out.2.size, HO.out.2.2, World.ownsRow_nil _ _ _ _⟩, HA4.out.1.under HWB.out.2 hg, HA4.out.2.then HWB.out.2⟩
end Go.Proofs.Ytdkpbphgaenlnaa

/-
  The walks of rec's rightRoot and Right.
-/
namespace Go.Proofs.Ytdkpbphgaenlnaa
open Go.RowKit
set_option linter.unusedSimpArgs false

section
variable (kd : Int) (s : ByteArray) (id no size : Int) (LA : Option Addr) (ln lc : Nat) (BA : Option Addr) (bn bc : Nat) (ls : List Lc) (w : World)
set_option maxRecDepth 100000 in
set_option maxHeartbeats 4000000 in
theorem rightRoot_any (hl : Locs w LA ln lc ls) :
    Calls Try.prog 123 #[.agg #[.int .i64 kd, .string s, .int .i64 id, .int .i64 no, .int .i64 size, .slice LA ln lc, .slice BA bn bc]] w fun e w' => e = .returned (.bool (decide (no = 0 ∧ bn = 0 ∧ (1 ≤ s.size ∧ s.size ≤ 64) ∧ (0 ≤ id ∧ id ≤ 1099511627776) ∧ (1 ≤ size ∧ size ≤ 65536) ∧ LocsOk ls size))) ∧ Below w.heap.size w w' := by
  have HL := Lib.hid hl
  obtain ⟨q, hq⟩ : ∃ q, decide (LocsOk ls size) = q := ⟨_, rfl⟩
  have hq' : LocsOk ls size ↔ q = true := by rw [← hq, decide_eq_true_eq]
  rw [show decide (no = 0 ∧ bn = 0 ∧ (1 ≤ s.size ∧ s.size ≤ 64) ∧ (0 ≤ id ∧ id ≤ 1099511627776) ∧ (1 ≤ size ∧ size ≤ 65536) ∧ LocsOk ls size) = decide (no = 0 ∧ bn = 0 ∧ (1 ≤ s.size ∧ s.size ≤ 64) ∧ (0 ≤ id ∧ id ≤ 1099511627776) ∧ (1 ≤ size ∧ size ≤ 65536) ∧ q = true) by simp only [hq']]
  have HQ := Lib.hid hq
  clear hl hq hq'
  obtain ⟨p, hp⟩ : ∃ p, decide (no = 0 ∧ bn = 0 ∧ (1 ≤ s.size ∧ s.size ≤ 64) ∧ (0 ≤ id ∧ id ≤ 1099511627776) ∧ (1 ≤ size ∧ size ≤ 65536) ∧ q = true) = p := ⟨_, rfl⟩
  rw [hp]
  have HP := Lib.hid hp
  clear hp
  go_enter Try.func123, Try.ntmps123
  go_wp2_with (first
    | (go_at_call 153
       refine (rightLocs_any _ _ _ _ _ _ _ _ _ _ _ ls _ (HL.out.grow (Grows.trans (grows_alloc _ _) (grows_alloc _ _)))).mono ?_
       rintro e w1 ⟨rfl, hb⟩
       rw [HQ.out]
       have HB := Lib.hid (Below.trans (Grows.trans (grows_alloc w _) (grows_alloc _ _)) (Below.mono hb (Nat.le_trans (le_alloc w _) (le_alloc _ _))))
       clear hb)
    | go_in)
  all_goals
    go_ret
    refine ⟨ret_bool (by rw [← HP.out, Bool.eq_iff_iff]; simp [-Nat.lt_one_iff] at *; first | omega | (cases q <;> simp <;> omega)), ?_⟩
    first | exact HB.out | exact grows_alloc _ _ | exact Grows.trans (grows_alloc _ _) (grows_alloc _ _)

theorem store_fn (a : Addr) (f : FuncId) (m : Mode) (w : World) : (store a (.func (.func f) #[] #[]) m).run Try.prog w = stored Try.prog w a (.func (.func f) #[] #[]) m := run_store Try.prog w a _ m rfl
theorem store_nil (a : Addr) (m : Mode) (w : World) : (store a .nilFunc m).run Try.prog w = stored Try.prog w a .nilFunc m := run_store Try.prog w a _ m rfl
theorem kept_start (w : World) : Grows w w.drew := grows_drew w
theorem kept_begun {W0 : World} {o : Obj} : Grows W0 (W0.alloc o).drew := Grows.trans (grows_alloc _ _) (grows_drew _)
theorem kept_call {W0 w w1 : World} (h : Grows W0 w) (hb : Below w.heap.size w w1) : Grows W0 w1 := Grows.trans h hb
theorem kept_alloc {W0 w : World} {o : Obj} (h : Grows W0 w) : Grows W0 (w.alloc o) := Grows.trans h (grows_alloc _ _)
theorem kept_set {W0 w : World} {b i : Nat} {u : Value} (h : Grows W0 w) (hb : W0.heap.size ≤ b) : Grows W0 (w.setCell ⟨b, i, none⟩ u) := Below.setCell h hb u

set_option maxRecDepth 100000 in
set_option maxHeartbeats 4000000 in
theorem right_of (q : Bool) (f1 f2 f3 : FuncId) (hf : wayOf kd = wayV f1 f2 f3) (hk : decide (kd = 1 ∨ kd = 2 ∨ kd = 3 ∨ kd = 4) = true)
    (hc1 : ∀ a w, (callFunc f1 a).run Try.prog w = .ok (.enter f1 a) w)
    (hr : ∀ w1, Grows w w1 → Calls Try.prog f1 #[.agg #[.int .i64 kd, .string s, .int .i64 id, .int .i64 no, .int .i64 size, .slice LA ln lc, .slice BA bn bc]] w1 fun e w2 => e = .returned (.bool q) ∧ Below w1.heap.size w1 w2) :
    Calls Try.prog 68 #[.agg #[.int .i64 kd, .string s, .int .i64 id, .int .i64 no, .int .i64 size, .slice LA ln lc, .slice BA bn bc]] w fun e w' => e = .returned (.bool q) ∧ Below w.heap.size w w' := by
  have HR := Lib.hid hr
  clear hr
  have hlook : ∀ (w1 : World) (g : Nat), WaysAt w1 g → ∀ w2, Grows w1 w2 → (Instr.lookup 156 (.map (some g)) (.int .i64 kd) true).run Try.prog w2 = .ok (.tuple #[.agg #[.func (.func f1) #[] #[], .func (.func f2) #[] #[], .func (.func f3) #[] #[]], .bool true]) w2 := fun w1 g h w2 hg => by
    have := look_is (h.grow hg) kd
    rw [hf, hk] at this
    exact this
  have HLK := Lib.hid hlook
  clear hlook
  have hst := fun a f m w => store_fn a f m w
  have hdr : ∀ w : World, w.drew.heap.size = w.heap.size := fun _ => rfl
  clear hf hk
  go_enter Try.func68, Try.ntmps68
  go_wp2_with (fail)
  obtain ⟨W0, hW0⟩ : ∃ W0, w.alloc (.cells #[.int .i64 kd, .string s, .int .i64 id, .int .i64 no, .int .i64 size, .slice LA ln lc, .slice BA bn bc] 59) = W0 := ⟨_, rfl⟩
  have hs0 : W0.heap.size = w.heap.size + 1 := by rw [← hW0]; simp
  have hw0 : Whole W0 w.heap.size 59 #[.int .i64 kd, .string s, .int .i64 id, .int .i64 no, .int .i64 size, .slice LA ln lc, .slice BA bn bc] := by rw [← hW0]; exact Whole.made _ _ _
  have hcell : ∀ w', Grows W0 w' → w'.cell? ⟨w.heap.size, 0, none⟩ = some (.int .i64 kd) := fun w' hg => (hg.whole hw0).cell 0
  have HW0 := Lib.hid hw0
  have HG0 : Hid (Grows w W0) := Lib.hid (hW0 ▸ grows_alloc _ _)
  rw [hW0]
  clear hw0 hW0
  go_region_held3 (fun w' => Grows W0 w') (with_reducible first | assumption | exact kept_start _ | exact kept_call (by assumption) (by assumption) | exact kept_alloc (by assumption) | exact kept_begun | ((repeat (refine kept_set ?_ (by omega))); assumption)) (first
    | (go_at_call 103
       refine (ways_any _).mono ?_
       rintro e w1 ⟨rfl, hw, hb⟩
       have hg1 : Grows W0 w1 := kept_call (by assumption) hb
       have hw1 := hg1.whole HW0.out
       have hlt := hw1.lt
       have c0 := hw1.cell 0
       have c1 := hw1.cell 1
       have c2 := hw1.cell 2
       have c3 := hw1.cell 3
       have c4 := hw1.cell 4
       have c5 := hw1.cell 5
       have c6 := hw1.cell 6
       simp only [List.getElem?_toArray, List.getElem?_cons_zero, List.getElem?_cons_succ] at c0 c1 c2 c3 c4 c5 c6
       simp only [World.size_alloc, hs0, hdr] at hw
       have l0 := HLK.out w1 _ hw w1 (Grows.refl _)
       have l1 := fun o => HLK.out w1 _ hw (w1.alloc o) (grows_alloc _ _)
       clear hw
       first
         | (have hwh : Whole w1 (w.heap.size + 1) 154 #[.nilFunc, .nilFunc, .nilFunc] := by
              rw [← hs0]
              exact Whole.below (show Whole (World.drew (W0.alloc _)) _ _ _ from Whole.made W0 _ _) hb (by simp [hdr])
            have d0 := hwh.cell 0
            have d1 := hwh.cell 1
            have d2 := hwh.cell 2
            have e0 := hwh.free 0
            have e1 := hwh.free 1
            have e2 := hwh.free 2
            simp only [List.getElem?_toArray, List.getElem?_cons_zero, List.getElem?_cons_succ] at d0 d1 d2
            clear hwh)
         | skip))
  all_goals
    have HG := Lib.hid (Grows.trans HG0.out (by assumption))
    go_wp2_with (fail)
    refine (HR.out _ HG.out).mono ?_
    rintro e w2 ⟨rfl, hb2⟩
    have HB := Lib.hid (Grows.trans HG.out hb2)
    clear hb2
    go_wp2_with (fail)
    go_ret
    exact ⟨rfl, HB.out⟩
set_option maxRecDepth 100000 in
set_option maxHeartbeats 4000000 in
theorem right_none (hf : wayOf kd = wNone) (hk : decide (kd = 1 ∨ kd = 2 ∨ kd = 3 ∨ kd = 4) = false) :
    Calls Try.prog 68 #[.agg #[.int .i64 kd, .string s, .int .i64 id, .int .i64 no, .int .i64 size, .slice LA ln lc, .slice BA bn bc]] w fun e w' => e = .returned (.bool false) ∧ Below w.heap.size w w' := by
  have hlook : ∀ (w1 : World) (g : Nat), WaysAt w1 g → ∀ w2, Grows w1 w2 → (Instr.lookup 156 (.map (some g)) (.int .i64 kd) true).run Try.prog w2 = .ok (.tuple #[.agg #[.nilFunc, .nilFunc, .nilFunc], .bool false]) w2 := fun w1 g h w2 hg => by
    have := look_is (h.grow hg) kd
    rw [hf, hk] at this
    exact this
  have HLK := Lib.hid hlook
  clear hlook
  have hst := fun a m w => store_nil a m w
  have hdr : ∀ w : World, w.drew.heap.size = w.heap.size := fun _ => rfl
  clear hf hk
  go_enter Try.func68, Try.ntmps68
  go_wp2_with (fail)
  obtain ⟨W0, hW0⟩ : ∃ W0, w.alloc (.cells #[.int .i64 kd, .string s, .int .i64 id, .int .i64 no, .int .i64 size, .slice LA ln lc, .slice BA bn bc] 59) = W0 := ⟨_, rfl⟩
  have hs0 : W0.heap.size = w.heap.size + 1 := by rw [← hW0]; simp
  have hw0 : Whole W0 w.heap.size 59 #[.int .i64 kd, .string s, .int .i64 id, .int .i64 no, .int .i64 size, .slice LA ln lc, .slice BA bn bc] := by rw [← hW0]; exact Whole.made _ _ _
  have hcell : ∀ w', Grows W0 w' → w'.cell? ⟨w.heap.size, 0, none⟩ = some (.int .i64 kd) := fun w' hg => (hg.whole hw0).cell 0
  have HW0 := Lib.hid hw0
  have HG0 : Hid (Grows w W0) := Lib.hid (hW0 ▸ grows_alloc _ _)
  rw [hW0]
  clear hw0 hW0
  go_region_held3 (fun w' => Grows W0 w') (with_reducible first | assumption | exact kept_start _ | exact kept_call (by assumption) (by assumption) | exact kept_alloc (by assumption) | exact kept_begun | ((repeat (refine kept_set ?_ (by omega))); assumption)) (first
    | (go_at_call 103
       refine (ways_any _).mono ?_
       rintro e w1 ⟨rfl, hw, hb⟩
       have hg1 : Grows W0 w1 := kept_call (by assumption) hb
       have hw1 := hg1.whole HW0.out
       have hlt := hw1.lt
       have c0 := hw1.cell 0
       have c1 := hw1.cell 1
       have c2 := hw1.cell 2
       have c3 := hw1.cell 3
       have c4 := hw1.cell 4
       have c5 := hw1.cell 5
       have c6 := hw1.cell 6
       simp only [List.getElem?_toArray, List.getElem?_cons_zero, List.getElem?_cons_succ] at c0 c1 c2 c3 c4 c5 c6
       simp only [World.size_alloc, hs0, hdr] at hw
       have l0 := HLK.out w1 _ hw w1 (Grows.refl _)
       have l1 := fun o => HLK.out w1 _ hw (w1.alloc o) (grows_alloc _ _)
       clear hw
       first
         | (have hwh : Whole w1 (w.heap.size + 1) 154 #[.nilFunc, .nilFunc, .nilFunc] := by
              rw [← hs0]
              exact Whole.below (show Whole (World.drew (W0.alloc _)) _ _ _ from Whole.made W0 _ _) hb (by simp [hdr])
            have d0 := hwh.cell 0
            have d1 := hwh.cell 1
            have d2 := hwh.cell 2
            have e0 := hwh.free 0
            have e1 := hwh.free 1
            have e2 := hwh.free 2
            simp only [List.getElem?_toArray, List.getElem?_cons_zero, List.getElem?_cons_succ] at d0 d1 d2
            clear hwh)
         | skip))
  all_goals
    have HG := Lib.hid (Grows.trans HG0.out (by assumption))
    go_wp2_with (fail)
    go_ret
    exact ⟨rfl, HG.out⟩
end
end Go.Proofs.Ytdkpbphgaenlnaa

/-
  The walk of rec's Put, what its ways do being told.
-/
namespace Go.Proofs.Ytdkpbphgaenlnaa
open Go.RowKit
set_option linter.unusedSimpArgs false
section
variable (kd : Int) (s : ByteArray) (id no size : Int) (LA : Option Addr) (ln lc : Nat) (BA : Option Addr) (bn bc : Nat) (w : World)
theorem up_cell {W w2 : World} {p : Addr} {v : Value} (hb : Below W.heap.size W w2) (h : W.cell? p = some v) : w2.cell? p = some v := (hb.cell (World.block_lt_of_cell? W _ h)).trans h

set_option maxRecDepth 100000 in
set_option maxHeartbeats 4000000 in
theorem put_of (q : Bool) (f1 f2 f3 : FuncId) (hf : wayOf kd = wayV f1 f2 f3) (hk : decide (kd = 1 ∨ kd = 2 ∨ kd = 3 ∨ kd = 4) = true)
    (hc1 : ∀ a w, (callFunc f1 a).run Try.prog w = .ok (.enter f1 a) w)
    (hr : ∀ w1, Grows w w1 → Calls Try.prog f1 #[.agg #[.int .i64 kd, .string s, .int .i64 id, .int .i64 no, .int .i64 size, .slice LA ln lc, .slice BA bn bc]] w1 fun e w2 => e = .returned (.bool q) ∧ Below w1.heap.size w1 w2)
    (body : List UInt8) (hc2 : ∀ a w, (callFunc f2 a).run Try.prog w = .ok (.enter f2 a) w)
    (hp : q = true → ∀ W A c, Grows w W → W.ownsRow w.heap.size 5 1 (.slice A 1 c) 1 ([byteI kd].map byteV) → Calls Try.prog f2 #[.agg #[.int .i64 kd, .string s, .int .i64 id, .int .i64 no, .int .i64 size, .slice LA ln lc, .slice BA bn bc], .slice A 1 c] W fun e w' => ∃ A' m c', e = .returned (.slice A' m c') ∧ w'.ownsRow w.heap.size 5 1 (.slice A' m c') m ((byteI kd :: body).map byteV) ∧ Below w.heap.size W w') :
    Calls Try.prog 69 #[.agg #[.int .i64 kd, .string s, .int .i64 id, .int .i64 no, .int .i64 size, .slice LA ln lc, .slice BA bn bc]] w fun e w' => ∃ A' m c', e = .returned (.slice A' m c') ∧ w'.ownsRow w.heap.size 5 1 (.slice A' m c') m ((if q then byteI kd :: body else []).map byteV) ∧ Below w.heap.size w w' := by
  have HR := Lib.hid hr
  have HP := Lib.hid hp
  clear hr hp
  have hlook : ∀ (w1 : World) (g : Nat), WaysAt w1 g → ∀ w2, Grows w1 w2 → (Instr.lookup 156 (.map (some g)) (.int .i64 kd) true).run Try.prog w2 = .ok (.tuple #[.agg #[.func (.func f1) #[] #[], .func (.func f2) #[] #[], .func (.func f3) #[] #[]], .bool true]) w2 := fun w1 g h w2 hg => by
    have := look_is (h.grow hg) kd
    rw [hf, hk] at this
    exact this
  have HLK := Lib.hid hlook
  clear hlook
  have hst := fun a f m w => store_fn a f m w
  have hdr : ∀ w : World, w.drew.heap.size = w.heap.size := fun _ => rfl
  clear hf hk
  go_enter Try.func69, Try.ntmps69
  go_wp2_with (fail)
  obtain ⟨W0, hW0⟩ : ∃ W0, w.alloc (.cells #[.int .i64 kd, .string s, .int .i64 id, .int .i64 no, .int .i64 size, .slice LA ln lc, .slice BA bn bc] 59) = W0 := ⟨_, rfl⟩
  have hs0 : W0.heap.size = w.heap.size + 1 := by rw [← hW0]; simp
  have hw0 : Whole W0 w.heap.size 59 #[.int .i64 kd, .string s, .int .i64 id, .int .i64 no, .int .i64 size, .slice LA ln lc, .slice BA bn bc] := by rw [← hW0]; exact Whole.made _ _ _
  have hcell : ∀ w', Grows W0 w' → w'.cell? ⟨w.heap.size, 0, none⟩ = some (.int .i64 kd) := fun w' hg => (hg.whole hw0).cell 0
  have HW0 := Lib.hid hw0
  have HG0 : Hid (Grows w W0) := Lib.hid (hW0 ▸ grows_alloc _ _)
  rw [hW0]
  clear hw0 hW0
  go_region_held3 (fun w' => Grows W0 w') (with_reducible first | assumption | exact kept_start _ | exact kept_call (by assumption) (by assumption) | exact kept_alloc (by assumption) | exact kept_begun | ((repeat (refine kept_set ?_ (by omega))); assumption)) (first
    | (go_at_call 103
       refine (ways_any _).mono ?_
       rintro e w1 ⟨rfl, hw, hb⟩
       have hg1 : Grows W0 w1 := kept_call (by assumption) hb
       have hw1 := hg1.whole HW0.out
       have hlt := hw1.lt
       have c0 := hw1.cell 0
       have c1 := hw1.cell 1
       have c2 := hw1.cell 2
       have c3 := hw1.cell 3
       have c4 := hw1.cell 4
       have c5 := hw1.cell 5
       have c6 := hw1.cell 6
       simp only [List.getElem?_toArray, List.getElem?_cons_zero, List.getElem?_cons_succ] at c0 c1 c2 c3 c4 c5 c6
       simp only [World.size_alloc, hs0, hdr] at hw
       have l0 := HLK.out w1 _ hw w1 (Grows.refl _)
       have l1 := fun o => HLK.out w1 _ hw (w1.alloc o) (grows_alloc _ _)
       clear hw
       first
         | (have hwh : Whole w1 (w.heap.size + 1) 154 #[.nilFunc, .nilFunc, .nilFunc] := by
              rw [← hs0]
              exact Whole.below (show Whole (World.drew (W0.alloc _)) _ _ _ from Whole.made W0 _ _) hb (by simp [hdr])
            have d0 := hwh.cell 0
            have d1 := hwh.cell 1
            have d2 := hwh.cell 2
            have e0 := hwh.free 0
            have e1 := hwh.free 1
            have e2 := hwh.free 2
            simp only [List.getElem?_toArray, List.getElem?_cons_zero, List.getElem?_cons_succ] at d0 d1 d2
            have HWH := Lib.hid hwh
            clear hwh)
         | skip))
  all_goals
    have HG := Lib.hid (Grows.trans HG0.out (by assumption))
    go_wp2_with (fail)
    refine (HR.out _ HG.out).mono ?_
    rintro e w2 ⟨rfl, hb2⟩
    have HB := Lib.hid (Grows.trans HG.out hb2)
    have hw2 := (Grows.trans (by assumption : Grows W0 _) hb2).whole HW0.out
    have b0 := hw2.cell 0
    have b1 := hw2.cell 1
    have b2 := hw2.cell 2
    have b3 := hw2.cell 3
    have b4 := hw2.cell 4
    have b5 := hw2.cell 5
    have b6 := hw2.cell 6
    simp only [List.getElem?_toArray, List.getElem?_cons_zero, List.getElem?_cons_succ] at b0 b1 b2 b3 b4 b5 b6
    first
      | have z1 : w2.cell? ⟨w1.heap.size, 1, none⟩ = some (.func (.func f2) #[] #[]) := up_cell hb2 ((Whole.made w1 _ _).cell 1)
      | have z1 : w2.cell? ⟨w.heap.size + 1, 1, none⟩ = some (.func (.func f2) #[] #[]) := up_cell hb2 ((((HWH.out.put 0 _).put 1 _).put 2 _).cell 1)
    clear hb2
    have hby := (byteI_nat kd).symm
    cases q with
    | false =>
      go_wp2_with (fail)
      go_ret
      exact ⟨none, 0, 0, rfl, World.ownsRow_nil _ _ _ _, HB.out⟩
    | true =>
      have HOW := Lib.hid (World.ownsRow_lit (size := 1) (base := w.heap.size) (e := 5) w2 #[.int .u8 ((byteI kd).toNat : Int)] 1 HB.out.size (by unfold maxLen; omega) rfl)
      go_wp2_with (fail)
      refine (HP.out (by first | exact rfl | trivial) _ _ _ (Grows.trans HB.out (grows_alloc _ _)) HOW.out).mono ?_
      rintro e w3 ⟨A3, m3, c3, rfl, ho3, hb3⟩
      have HO3 := Lib.hid ho3
      have HB3 := Lib.hid (Below.trans HB.out (Below.trans ((Below.refl _ _).alloc HB.out.size _) hb3))
      clear ho3 hb3
      go_wp2_with (fail)
      go_ret
      exact ⟨A3, m3, c3, rfl, by simpa using HO3.out, HB3.out⟩
set_option maxRecDepth 100000 in
set_option maxHeartbeats 4000000 in
theorem put_none (hf : wayOf kd = wNone) (hk : decide (kd = 1 ∨ kd = 2 ∨ kd = 3 ∨ kd = 4) = false) :
    Calls Try.prog 69 #[.agg #[.int .i64 kd, .string s, .int .i64 id, .int .i64 no, .int .i64 size, .slice LA ln lc, .slice BA bn bc]] w fun e w' => e = .returned (.slice none 0 0) ∧ Below w.heap.size w w' := by
  have hlook : ∀ (w1 : World) (g : Nat), WaysAt w1 g → ∀ w2, Grows w1 w2 → (Instr.lookup 156 (.map (some g)) (.int .i64 kd) true).run Try.prog w2 = .ok (.tuple #[.agg #[.nilFunc, .nilFunc, .nilFunc], .bool false]) w2 := fun w1 g h w2 hg => by
    have := look_is (h.grow hg) kd
    rw [hf, hk] at this
    exact this
  have HLK := Lib.hid hlook
  clear hlook
  have hst := fun a m w => store_nil a m w
  have hdr : ∀ w : World, w.drew.heap.size = w.heap.size := fun _ => rfl
  clear hf hk
  go_enter Try.func69, Try.ntmps69
  go_wp2_with (fail)
  obtain ⟨W0, hW0⟩ : ∃ W0, w.alloc (.cells #[.int .i64 kd, .string s, .int .i64 id, .int .i64 no, .int .i64 size, .slice LA ln lc, .slice BA bn bc] 59) = W0 := ⟨_, rfl⟩
  have hs0 : W0.heap.size = w.heap.size + 1 := by rw [← hW0]; simp
  have hw0 : Whole W0 w.heap.size 59 #[.int .i64 kd, .string s, .int .i64 id, .int .i64 no, .int .i64 size, .slice LA ln lc, .slice BA bn bc] := by rw [← hW0]; exact Whole.made _ _ _
  have hcell : ∀ w', Grows W0 w' → w'.cell? ⟨w.heap.size, 0, none⟩ = some (.int .i64 kd) := fun w' hg => (hg.whole hw0).cell 0
  have HW0 := Lib.hid hw0
  have HG0 : Hid (Grows w W0) := Lib.hid (hW0 ▸ grows_alloc _ _)
  rw [hW0]
  clear hw0 hW0
  go_region_held3 (fun w' => Grows W0 w') (with_reducible first | assumption | exact kept_start _ | exact kept_call (by assumption) (by assumption) | exact kept_alloc (by assumption) | exact kept_begun | ((repeat (refine kept_set ?_ (by omega))); assumption)) (first
    | (go_at_call 103
       refine (ways_any _).mono ?_
       rintro e w1 ⟨rfl, hw, hb⟩
       have hg1 : Grows W0 w1 := kept_call (by assumption) hb
       have hw1 := hg1.whole HW0.out
       have hlt := hw1.lt
       have c0 := hw1.cell 0
       have c1 := hw1.cell 1
       have c2 := hw1.cell 2
       have c3 := hw1.cell 3
       have c4 := hw1.cell 4
       have c5 := hw1.cell 5
       have c6 := hw1.cell 6
       simp only [List.getElem?_toArray, List.getElem?_cons_zero, List.getElem?_cons_succ] at c0 c1 c2 c3 c4 c5 c6
       simp only [World.size_alloc, hs0, hdr] at hw
       have l0 := HLK.out w1 _ hw w1 (Grows.refl _)
       have l1 := fun o => HLK.out w1 _ hw (w1.alloc o) (grows_alloc _ _)
       clear hw
       first
         | (have hwh : Whole w1 (w.heap.size + 1) 154 #[.nilFunc, .nilFunc, .nilFunc] := by
              rw [← hs0]
              exact Whole.below (show Whole (World.drew (W0.alloc _)) _ _ _ from Whole.made W0 _ _) hb (by simp [hdr])
            have d0 := hwh.cell 0
            have d1 := hwh.cell 1
            have d2 := hwh.cell 2
            have e0 := hwh.free 0
            have e1 := hwh.free 1
            have e2 := hwh.free 2
            simp only [List.getElem?_toArray, List.getElem?_cons_zero, List.getElem?_cons_succ] at d0 d1 d2
            have HWH := Lib.hid hwh
            clear hwh)
         | skip))
  all_goals
    have HG := Lib.hid (Grows.trans HG0.out (by assumption))
    go_wp2_with (fail)
    go_ret
    exact ⟨rfl, HG.out⟩
end
end Go.Proofs.Ytdkpbphgaenlnaa

/-
  The walks of rec's putInline, putPiece.
-/
namespace Go.Proofs.Ytdkpbphgaenlnaa
open Go.RowKit
set_option linter.unusedSimpArgs false

theorem still {wB w w2 : World} {base : Nat} (hg : Grows wB w) (hbB : wB.heap.size ≤ base) (hb : Below base w w2) : Grows wB w2 := Below.trans hg (Below.mono hb hbB)

set_option maxRecDepth 100000 in
set_option maxHeartbeats 4000000 in
theorem putInline_own (base : Nat) (A0 : Option Addr) (n0 c0 : Nat) (xs ks : List UInt8) (kd id no size : Int) (LA : Option Addr) (ln lc : Nat) (BA : Option Addr) (bn bc : Nat) (w : World) (ho : w.ownsRow base 5 1 (.slice A0 n0 c0) n0 (xs.map byteV)) (hb : base ≤ w.heap.size) (hn : n0 ≤ 1000) (hk : ks.length ≤ 64) (bs : List UInt8) (wB : World) (hB : Sl wB BA bn bc bs) (hgB : Grows wB w) (hbB : wB.heap.size ≤ base) (hbn : bn ≤ 4096) :
    Calls Try.prog 127 #[.agg #[.int .i64 kd, .string ⟨ks.toArray⟩, .int .i64 id, .int .i64 no, .int .i64 size, .slice LA ln lc, .slice BA bn bc], .slice A0 n0 c0] w fun e w' => ∃ A' c', e = .returned (.slice A' (n0 + 1 + ks.length + bn) c') ∧ w'.ownsRow base 5 1 (.slice A' (n0 + 1 + ks.length + bn) c') (n0 + 1 + ks.length + bn) ((xs ++ keyP ks ++ bs).map byteV) ∧ Below base w w' := by
  go_enter Try.func127, Try.ntmps127
  go_wp2_with (fail)
  obtain ⟨W0, hW0⟩ : ∃ W0, w.alloc (.cells #[.int .i64 kd, .string ⟨ks.toArray⟩, .int .i64 id, .int .i64 no, .int .i64 size, .slice LA ln lc, .slice BA bn bc] 158) = W0 := ⟨_, rfl⟩
  have hg0 : Grows w W0 := hW0 ▸ grows_alloc _ _
  have hw0 : Whole W0 w.heap.size 158 #[.int .i64 kd, .string ⟨ks.toArray⟩, .int .i64 id, .int .i64 no, .int .i64 size, .slice LA ln lc, .slice BA bn bc] := by rw [← hW0]; exact Whole.made _ _ _
  have hc1 : ∀ w', Whole w' w.heap.size 158 #[.int .i64 kd, .string ⟨ks.toArray⟩, .int .i64 id, .int .i64 no, .int .i64 size, .slice LA ln lc, .slice BA bn bc] → w'.cell? ⟨w.heap.size, 1, none⟩ = some (.string ⟨ks.toArray⟩) := fun w' h => h.cell 1
  have hc2 : ∀ w', Whole w' w.heap.size 158 #[.int .i64 kd, .string ⟨ks.toArray⟩, .int .i64 id, .int .i64 no, .int .i64 size, .slice LA ln lc, .slice BA bn bc] → w'.cell? ⟨w.heap.size, 2, none⟩ = some (.int .i64 id) := fun w' h => h.cell 2
  have hc3 : ∀ w', Whole w' w.heap.size 158 #[.int .i64 kd, .string ⟨ks.toArray⟩, .int .i64 id, .int .i64 no, .int .i64 size, .slice LA ln lc, .slice BA bn bc] → w'.cell? ⟨w.heap.size, 3, none⟩ = some (.int .i64 no) := fun w' h => h.cell 3
  have hc4 : ∀ w', Whole w' w.heap.size 158 #[.int .i64 kd, .string ⟨ks.toArray⟩, .int .i64 id, .int .i64 no, .int .i64 size, .slice LA ln lc, .slice BA bn bc] → w'.cell? ⟨w.heap.size, 4, none⟩ = some (.int .i64 size) := fun w' h => h.cell 4
  have hc5 : ∀ w', Whole w' w.heap.size 158 #[.int .i64 kd, .string ⟨ks.toArray⟩, .int .i64 id, .int .i64 no, .int .i64 size, .slice LA ln lc, .slice BA bn bc] → w'.cell? ⟨w.heap.size, 5, none⟩ = some (.slice LA ln lc) := fun w' h => h.cell 5
  have hc6 : ∀ w', Whole w' w.heap.size 158 #[.int .i64 kd, .string ⟨ks.toArray⟩, .int .i64 id, .int .i64 no, .int .i64 size, .slice LA ln lc, .slice BA bn bc] → w'.cell? ⟨w.heap.size, 6, none⟩ = some (.slice BA bn bc) := fun w' h => h.cell 6
  have HO := Lib.hid (owned_grow ho (Grows.trans hg0 (kept_start W0)))
  have HG := Lib.hid (show Below base w W0.drew from Below.mono (Grows.trans hg0 (kept_start W0)) hb)
  have hsz : base ≤ W0.drew.heap.size := Nat.le_trans hb (Grows.trans hg0 (kept_start W0)).size
  have HSZ := Lib.hid hsz
  rw [hW0]
  have hw0' : Whole W0.drew w.heap.size 158 #[.int .i64 kd, .string ⟨ks.toArray⟩, .int .i64 id, .int .i64 no, .int .i64 size, .slice LA ln lc, .slice BA bn bc] := hw0
  clear ho hg0 hsz hW0
  go_region_held3 (fun w' => Whole w' w.heap.size 158 #[.int .i64 kd, .string ⟨ks.toArray⟩, .int .i64 id, .int .i64 no, .int .i64 size, .slice LA ln lc, .slice BA bn bc]) (with_reducible first | assumption) (first
    | (go_at_call 154
       refine (keyPut_own base A0 n0 c0 xs ks _ HO.out HSZ.out (by omega) hk).mono ?_
       rintro e w1 ⟨A1, c1, rfl, ho1, hb1, hs1⟩
       have hk1 := hs1 _ _ _ (by decide) (by assumption : Whole _ w.heap.size 158 #[.int .i64 kd, .string ⟨ks.toArray⟩, .int .i64 id, .int .i64 no, .int .i64 size, .slice LA ln lc, .slice BA bn bc])
       have HO1 := Lib.hid ho1
       have HB1 := Lib.hid (Below.trans HG.out hb1)
       clear ho1 hb1 hs1)
    | (refine step_app isSl_made isSl_bytes (by rfl) (.tmp 8) (.tmp 10) (by rfl) (base := base) (by rfl) HO1.out (by rfl) (hB.grow (still hgB hbB HB1.out)) (n0 + 1 + ks.length + bn) rfl (by omega) (Nat.le_trans hb HB1.out.size) ?_
       intro A2 c2 w2 ho2 hb2 hs2
       have hk2 := hs2 _ _ _ (by decide) (by assumption : Whole _ w.heap.size 158 #[.int .i64 kd, .string ⟨ks.toArray⟩, .int .i64 id, .int .i64 no, .int .i64 size, .slice LA ln lc, .slice BA bn bc])
       have HO2 := Lib.hid ho2
       have HB2 := Lib.hid (Below.trans HB1.out hb2)
       clear ho2 hb2 hs2))
  go_wp2_with (fail)
  go_ret
  exact ⟨A2, c2, rfl, HO2.out, HB2.out⟩

set_option maxRecDepth 100000 in
set_option maxHeartbeats 4000000 in
theorem putPiece_own (base : Nat) (A0 : Option Addr) (n0 c0 : Nat) (xs ks : List UInt8) (kd id no size : Int) (LA : Option Addr) (ln lc : Nat) (BA : Option Addr) (bn bc : Nat) (w : World) (ho : w.ownsRow base 5 1 (.slice A0 n0 c0) n0 (xs.map byteV)) (hb : base ≤ w.heap.size) (hn : n0 ≤ 1000) (bs : List UInt8) (wB : World) (hB : Sl wB BA bn bc bs) (hgB : Grows wB w) (hbB : wB.heap.size ≤ base) (hbn : bn ≤ 4096) :
    Calls Try.prog 121 #[.agg #[.int .i64 kd, .string ⟨ks.toArray⟩, .int .i64 id, .int .i64 no, .int .i64 size, .slice LA ln lc, .slice BA bn bc], .slice A0 n0 c0] w fun e w' => ∃ A' c', e = .returned (.slice A' (n0 + 6 + 2 + bn) c') ∧ w'.ownsRow base 5 1 (.slice A' (n0 + 6 + 2 + bn) c') (n0 + 6 + 2 + bn) ((xs ++ numB id 6 ++ numB no 2 ++ bs).map byteV) ∧ Below base w w' := by
  go_enter Try.func121, Try.ntmps121
  go_wp2_with (fail)
  obtain ⟨W0, hW0⟩ : ∃ W0, w.alloc (.cells #[.int .i64 kd, .string ⟨ks.toArray⟩, .int .i64 id, .int .i64 no, .int .i64 size, .slice LA ln lc, .slice BA bn bc] 158) = W0 := ⟨_, rfl⟩
  have hg0 : Grows w W0 := hW0 ▸ grows_alloc _ _
  have hw0 : Whole W0 w.heap.size 158 #[.int .i64 kd, .string ⟨ks.toArray⟩, .int .i64 id, .int .i64 no, .int .i64 size, .slice LA ln lc, .slice BA bn bc] := by rw [← hW0]; exact Whole.made _ _ _
  have hc1 : ∀ w', Whole w' w.heap.size 158 #[.int .i64 kd, .string ⟨ks.toArray⟩, .int .i64 id, .int .i64 no, .int .i64 size, .slice LA ln lc, .slice BA bn bc] → w'.cell? ⟨w.heap.size, 1, none⟩ = some (.string ⟨ks.toArray⟩) := fun w' h => h.cell 1
  have hc2 : ∀ w', Whole w' w.heap.size 158 #[.int .i64 kd, .string ⟨ks.toArray⟩, .int .i64 id, .int .i64 no, .int .i64 size, .slice LA ln lc, .slice BA bn bc] → w'.cell? ⟨w.heap.size, 2, none⟩ = some (.int .i64 id) := fun w' h => h.cell 2
  have hc3 : ∀ w', Whole w' w.heap.size 158 #[.int .i64 kd, .string ⟨ks.toArray⟩, .int .i64 id, .int .i64 no, .int .i64 size, .slice LA ln lc, .slice BA bn bc] → w'.cell? ⟨w.heap.size, 3, none⟩ = some (.int .i64 no) := fun w' h => h.cell 3
  have hc4 : ∀ w', Whole w' w.heap.size 158 #[.int .i64 kd, .string ⟨ks.toArray⟩, .int .i64 id, .int .i64 no, .int .i64 size, .slice LA ln lc, .slice BA bn bc] → w'.cell? ⟨w.heap.size, 4, none⟩ = some (.int .i64 size) := fun w' h => h.cell 4
  have hc5 : ∀ w', Whole w' w.heap.size 158 #[.int .i64 kd, .string ⟨ks.toArray⟩, .int .i64 id, .int .i64 no, .int .i64 size, .slice LA ln lc, .slice BA bn bc] → w'.cell? ⟨w.heap.size, 5, none⟩ = some (.slice LA ln lc) := fun w' h => h.cell 5
  have hc6 : ∀ w', Whole w' w.heap.size 158 #[.int .i64 kd, .string ⟨ks.toArray⟩, .int .i64 id, .int .i64 no, .int .i64 size, .slice LA ln lc, .slice BA bn bc] → w'.cell? ⟨w.heap.size, 6, none⟩ = some (.slice BA bn bc) := fun w' h => h.cell 6
  have HO := Lib.hid (owned_grow ho (Grows.trans hg0 (kept_start W0)))
  have HG := Lib.hid (show Below base w W0.drew from Below.mono (Grows.trans hg0 (kept_start W0)) hb)
  have hsz : base ≤ W0.drew.heap.size := Nat.le_trans hb (Grows.trans hg0 (kept_start W0)).size
  have HSZ := Lib.hid hsz
  rw [hW0]
  have hw0' : Whole W0.drew w.heap.size 158 #[.int .i64 kd, .string ⟨ks.toArray⟩, .int .i64 id, .int .i64 no, .int .i64 size, .slice LA ln lc, .slice BA bn bc] := hw0
  clear ho hg0 hsz hW0
  go_region_held3 (fun w' => Whole w' w.heap.size 158 #[.int .i64 kd, .string ⟨ks.toArray⟩, .int .i64 id, .int .i64 no, .int .i64 size, .slice LA ln lc, .slice BA bn bc]) (with_reducible first | assumption) (first
    | (go_at_call 149
       refine (number_own base A1 (n0 + 6) c1 _ no 2 _ HO1.out (Nat.le_trans hb HB1.out.size) (by omega) (by omega)).mono ?_
       rintro e w2 ⟨A2, c2, rfl, ho2, hb2, hs2⟩
       have hk2 := hs2 _ _ _ (by decide) (by assumption : Whole _ w.heap.size 158 #[.int .i64 kd, .string ⟨ks.toArray⟩, .int .i64 id, .int .i64 no, .int .i64 size, .slice LA ln lc, .slice BA bn bc])
       have HO2 := Lib.hid ho2
       have HB2 := Lib.hid (Below.trans HB1.out hb2)
       clear ho2 hb2 hs2)
    | (go_at_call 149
       refine (number_own base A0 n0 c0 xs id 6 _ HO.out HSZ.out (by omega) (by omega)).mono ?_
       rintro e w1 ⟨A1, c1, rfl, ho1, hb1, hs1⟩
       have hk1 := hs1 _ _ _ (by decide) (by assumption : Whole _ w.heap.size 158 #[.int .i64 kd, .string ⟨ks.toArray⟩, .int .i64 id, .int .i64 no, .int .i64 size, .slice LA ln lc, .slice BA bn bc])
       have HO1 := Lib.hid ho1
       have HB1 := Lib.hid (Below.trans HG.out hb1)
       clear ho1 hb1 hs1))
  have m6 := hc6 _ hk2
  have HB6 := Lib.hid (hB.grow (still hgB hbB HB2.out))
  go_wp2_with (at_builtin
               refine list_app isSl_made isSl_bytes rfl (.tmp 12) (.tmp 14) rfl (base := base) rfl HO2.out rfl HB6.out (n0 + 6 + 2 + bn) rfl (by omega) (Nat.le_trans hb HB2.out.size) ?_
               intro A3 c3 w3 ho3 hb3 hs3
               have HO3 := Lib.hid ho3
               have HB3 := Lib.hid (Below.trans HB2.out hb3)
               clear ho3 hb3 hs3)
  go_ret
  exact ⟨A3, c3, rfl, HO3.out, HB3.out⟩
end Go.Proofs.Ytdkpbphgaenlnaa

/-
  The walks of rec's putRoot.
-/
namespace Go.Proofs.Ytdkpbphgaenlnaa
open Go.RowKit
set_option linter.unusedSimpArgs false


set_option maxRecDepth 100000 in
set_option maxHeartbeats 8000000 in
theorem putRoot_own (base : Nat) (A0 : Option Addr) (n0 c0 : Nat) (xs ks : List UInt8) (kd id no size : Int) (LA : Option Addr) (ln lc : Nat) (BA : Option Addr) (bn bc : Nat) (w : World) (ho : w.ownsRow base 5 1 (.slice A0 n0 c0) n0 (xs.map byteV)) (hb : base ≤ w.heap.size) (hn : n0 ≤ 1000) (hk : ks.length ≤ 64) (ls : List Lc) (wB : World) (hL : Locs wB LA ln lc ls) (hgB : Grows wB w) (hbB : wB.heap.size ≤ base) (hln : ln ≤ 512) :
    Calls Try.prog 124 #[.agg #[.int .i64 kd, .string ⟨ks.toArray⟩, .int .i64 id, .int .i64 no, .int .i64 size, .slice LA ln lc, .slice BA bn bc], .slice A0 n0 c0] w fun e w' => ∃ A' c', e = .returned (.slice A' (n0 + 1 + ks.length + 6 + 3 + 2 + 10 * ln) c') ∧ w'.ownsRow base 5 1 (.slice A' (n0 + 1 + ks.length + 6 + 3 + 2 + 10 * ln) c') (n0 + 1 + ks.length + 6 + 3 + 2 + 10 * ln) ((xs ++ keyP ks ++ numB id 6 ++ numB size 3 ++ numB ln 2 ++ locsB ls).map byteV) ∧ Below base w w' := by
  have hlen := hL.len
  go_enter Try.func124, Try.ntmps124
  go_wp2_with (fail)
  obtain ⟨W0, hW0⟩ : ∃ W0, w.alloc (.cells #[.int .i64 kd, .string ⟨ks.toArray⟩, .int .i64 id, .int .i64 no, .int .i64 size, .slice LA ln lc, .slice BA bn bc] 158) = W0 := ⟨_, rfl⟩
  have hg0 : Grows w W0 := hW0 ▸ grows_alloc _ _
  have hw0 : Whole W0 w.heap.size 158 #[.int .i64 kd, .string ⟨ks.toArray⟩, .int .i64 id, .int .i64 no, .int .i64 size, .slice LA ln lc, .slice BA bn bc] := by rw [← hW0]; exact Whole.made _ _ _
  have hc1 : ∀ w', Whole w' w.heap.size 158 #[.int .i64 kd, .string ⟨ks.toArray⟩, .int .i64 id, .int .i64 no, .int .i64 size, .slice LA ln lc, .slice BA bn bc] → w'.cell? ⟨w.heap.size, 1, none⟩ = some (.string ⟨ks.toArray⟩) := fun w' h => h.cell 1
  have hc2 : ∀ w', Whole w' w.heap.size 158 #[.int .i64 kd, .string ⟨ks.toArray⟩, .int .i64 id, .int .i64 no, .int .i64 size, .slice LA ln lc, .slice BA bn bc] → w'.cell? ⟨w.heap.size, 2, none⟩ = some (.int .i64 id) := fun w' h => h.cell 2
  have hc3 : ∀ w', Whole w' w.heap.size 158 #[.int .i64 kd, .string ⟨ks.toArray⟩, .int .i64 id, .int .i64 no, .int .i64 size, .slice LA ln lc, .slice BA bn bc] → w'.cell? ⟨w.heap.size, 3, none⟩ = some (.int .i64 no) := fun w' h => h.cell 3
  have hc4 : ∀ w', Whole w' w.heap.size 158 #[.int .i64 kd, .string ⟨ks.toArray⟩, .int .i64 id, .int .i64 no, .int .i64 size, .slice LA ln lc, .slice BA bn bc] → w'.cell? ⟨w.heap.size, 4, none⟩ = some (.int .i64 size) := fun w' h => h.cell 4
  have hc5 : ∀ w', Whole w' w.heap.size 158 #[.int .i64 kd, .string ⟨ks.toArray⟩, .int .i64 id, .int .i64 no, .int .i64 size, .slice LA ln lc, .slice BA bn bc] → w'.cell? ⟨w.heap.size, 5, none⟩ = some (.slice LA ln lc) := fun w' h => h.cell 5
  have hc6 : ∀ w', Whole w' w.heap.size 158 #[.int .i64 kd, .string ⟨ks.toArray⟩, .int .i64 id, .int .i64 no, .int .i64 size, .slice LA ln lc, .slice BA bn bc] → w'.cell? ⟨w.heap.size, 6, none⟩ = some (.slice BA bn bc) := fun w' h => h.cell 6
  have HO := Lib.hid (owned_grow ho (Grows.trans hg0 (kept_start W0)))
  have HG := Lib.hid (show Below base w W0.drew from Below.mono (Grows.trans hg0 (kept_start W0)) hb)
  have hsz : base ≤ W0.drew.heap.size := Nat.le_trans hb (Grows.trans hg0 (kept_start W0)).size
  have HSZ := Lib.hid hsz
  rw [hW0]
  have hw0' : Whole W0.drew w.heap.size 158 #[.int .i64 kd, .string ⟨ks.toArray⟩, .int .i64 id, .int .i64 no, .int .i64 size, .slice LA ln lc, .slice BA bn bc] := hw0
  clear ho hg0 hsz hW0
  go_region_held3 (fun w' => Whole w' w.heap.size 158 #[.int .i64 kd, .string ⟨ks.toArray⟩, .int .i64 id, .int .i64 no, .int .i64 size, .slice LA ln lc, .slice BA bn bc]) (with_reducible first | assumption) (first
    | (go_at_call 149
       refine (number_own base A3 (n0 + 1 + ks.length + 6 + 3) c3 _ (ln : Int) 2 _ HO3.out (Nat.le_trans hb HB3.out.size) (by omega) (by omega)).mono ?_
       rintro e w4 ⟨A4, c4, rfl, ho4, hb4, hs4⟩
       have hk4 := hs4 _ _ _ (by decide) (by assumption : Whole _ w.heap.size 158 #[.int .i64 kd, .string ⟨ks.toArray⟩, .int .i64 id, .int .i64 no, .int .i64 size, .slice LA ln lc, .slice BA bn bc])
       have HO4 := Lib.hid ho4
       have HB4 := Lib.hid (Below.trans HB3.out hb4)
       clear ho4 hb4 hs4)
    | (go_at_call 149
       refine (number_own base A2 (n0 + 1 + ks.length + 6) c2 _ size 3 _ HO2.out (Nat.le_trans hb HB2.out.size) (by omega) (by omega)).mono ?_
       rintro e w3 ⟨A3, c3, rfl, ho3, hb3, hs3⟩
       have hk3 := hs3 _ _ _ (by decide) (by assumption : Whole _ w.heap.size 158 #[.int .i64 kd, .string ⟨ks.toArray⟩, .int .i64 id, .int .i64 no, .int .i64 size, .slice LA ln lc, .slice BA bn bc])
       have HO3 := Lib.hid ho3
       have HB3 := Lib.hid (Below.trans HB2.out hb3)
       clear ho3 hb3 hs3)
    | (go_at_call 149
       refine (number_own base A1 (n0 + 1 + ks.length) c1 _ id 6 _ HO1.out (Nat.le_trans hb HB1.out.size) (by omega) (by omega)).mono ?_
       rintro e w2 ⟨A2, c2, rfl, ho2, hb2, hs2⟩
       have hk2 := hs2 _ _ _ (by decide) (by assumption : Whole _ w.heap.size 158 #[.int .i64 kd, .string ⟨ks.toArray⟩, .int .i64 id, .int .i64 no, .int .i64 size, .slice LA ln lc, .slice BA bn bc])
       have HO2 := Lib.hid ho2
       have HB2 := Lib.hid (Below.trans HB1.out hb2)
       clear ho2 hb2 hs2)
    | (go_at_call 154
       refine (keyPut_own base A0 n0 c0 xs ks _ HO.out HSZ.out (by omega) hk).mono ?_
       rintro e w1 ⟨A1, c1, rfl, ho1, hb1, hs1⟩
       have hk1 := hs1 _ _ _ (by decide) (by assumption : Whole _ w.heap.size 158 #[.int .i64 kd, .string ⟨ks.toArray⟩, .int .i64 id, .int .i64 no, .int .i64 size, .slice LA ln lc, .slice BA bn bc])
       have HO1 := Lib.hid ho1
       have HB1 := Lib.hid (Below.trans HG.out hb1)
       clear ho1 hb1 hs1))
  have m5 := hc5 _ hk4
  obtain ⟨P, hP⟩ : ∃ P, xs ++ keyP ks ++ numB id 6 ++ numB size 3 ++ numB ln 2 = P := ⟨_, rfl⟩
  have HO4' := HO4.out
  rw [hP] at HO4'
  obtain ⟨N, hN⟩ : ∃ N, n0 + 1 + ks.length + 6 + 3 + 2 = N := ⟨_, rfl⟩
  have HNN := Lib.hid hN
  have HPP := Lib.hid hP
  have HO5 := Lib.hid HO4'
  have hN2 : N ≤ 2000 := by omega
  have HK4 := Lib.hid hk4
  have HLL := Lib.hid hL
  clear HO4' hk4 hk3 hk2 hk1 HO4 HO3 HO2 HO1 hw0 hw0' hc1 hc2 hc3 hc4 hc6 hc5 hP hN hL
  go_wp2_with (fail)
  go_loopw [1, 24] (fun m i wr => ∃ (A : Option Addr) (c k n : Nat), k ≤ ln ∧ i = .int .i64 (k : Nat) ∧ m = .slice A n c ∧ Hid (n = N + 10 * k) ∧ Hid (wr.ownsRow base 5 1 (.slice A n c) n ((P ++ locsB (ls.take k)).map byteV)) ∧ Hid (Below base w wr)) (fun _ i _ => ln - (intOf i).toNat)
  case atStart => exact ⟨A4, c4, 0, n0 + 1 + ks.length + 6 + 3 + 2, by omega, rfl, rfl, Lib.hid (by have := HNN.out; omega), Lib.hid (by simpa [locsB] using HO5.out), HB4⟩
  case round =>
    obtain ⟨A, c, k, n, hk, rfl, rfl, HN, HR, HB⟩ := hrel
    by_cases hlt : k < ln
    · obtain ⟨ad, rfl, p0, p1, p2⟩ := HLL.out.spot hlt
      have hgw : Grows wB wr := still hgB hbB HB.out
      have hn3 : n ≤ 10000 := by have := HN.out; omega
      have hnx := take_lc ls k (by omega)
      have k0 : (0 : Int) ≤ (k : Int) := by omega
      have k1 : (k : Int) < (ln : Int) := by omega
      generalize ls.getD k (0, 0, 0) = l at *
      obtain ⟨l0, l1, l2⟩ := l
      dsimp only at p0 p1 p2 hnx
      have q0 := p0 wr hgw
      have q1 := p1 wr hgw
      have q2 := p2 wr hgw
      have HX := Lib.hid hnx
      have hbr : base ≤ wr.heap.size := Nat.le_trans hb HB.out.size
      clear p0 p1 p2 hnx hgw
      go_wp2_with (fail)
      obtain ⟨V, hV⟩ : ∃ V, wr.alloc (.cells #[.int .i64 l0, .int .i64 l1, .int .i64 l2] 116) = V := ⟨_, rfl⟩
      have hgv : Grows wr V := hV ▸ grows_alloc _ _
      have hv0 : Whole V.drew wr.heap.size 116 #[.int .i64 l0, .int .i64 l1, .int .i64 l2] := by rw [← hV]; exact Whole.made _ _ _
      have hd0 : ∀ w', Whole w' wr.heap.size 116 #[.int .i64 l0, .int .i64 l1, .int .i64 l2] → w'.cell? ⟨wr.heap.size, 0, none⟩ = some (.int .i64 l0) := fun w' h => h.cell 0
      have hd1 : ∀ w', Whole w' wr.heap.size 116 #[.int .i64 l0, .int .i64 l1, .int .i64 l2] → w'.cell? ⟨wr.heap.size, 1, none⟩ = some (.int .i64 l1) := fun w' h => h.cell 1
      have hd2 : ∀ w', Whole w' wr.heap.size 116 #[.int .i64 l0, .int .i64 l1, .int .i64 l2] → w'.cell? ⟨wr.heap.size, 2, none⟩ = some (.int .i64 l2) := fun w' h => h.cell 2
      have HO6 := Lib.hid (owned_grow HR.out (Grows.trans hgv (kept_start V)))
      have HB6 := Lib.hid (Below.trans HB.out (Below.mono (Grows.trans hgv (kept_start V)) hbr))
      have hsz : base ≤ V.drew.heap.size := Nat.le_trans hbr (Grows.trans hgv (kept_start V)).size
      have HSV := Lib.hid hsz
      rw [hV]
      clear hgv hV hsz
      go_region_held3 (fun w' => Whole w' wr.heap.size 116 #[.int .i64 l0, .int .i64 l1, .int .i64 l2]) (with_reducible first | assumption) (first
        | (go_at_call 149
           refine (number_own base A8 (n + 4 + 4) c8 _ l2 2 _ HO8.out (Nat.le_trans hb HB8.out.size) (by omega) (by omega)).mono ?_
           rintro e w9 ⟨A9, c9, rfl, ho9, hb9, hs9⟩
           have hk9 := hs9 _ _ _ (by decide) (by assumption : Whole _ wr.heap.size 116 #[.int .i64 l0, .int .i64 l1, .int .i64 l2])
           have HO9 := Lib.hid ho9
           have HB9 := Lib.hid (Below.trans HB8.out hb9)
           clear ho9 hb9 hs9)
        | (go_at_call 149
           refine (number_own base A7 (n + 4) c7 _ l1 4 _ HO7.out (Nat.le_trans hb HB7.out.size) (by omega) (by omega)).mono ?_
           rintro e w8 ⟨A8, c8, rfl, ho8, hb8, hs8⟩
           have hk8 := hs8 _ _ _ (by decide) (by assumption : Whole _ wr.heap.size 116 #[.int .i64 l0, .int .i64 l1, .int .i64 l2])
           have HO8 := Lib.hid ho8
           have HB8 := Lib.hid (Below.trans HB7.out hb8)
           clear ho8 hb8 hs8)
        | (go_at_call 149
           refine (number_own base A n c _ l0 4 _ HO6.out HSV.out (by omega) (by omega)).mono ?_
           rintro e w7 ⟨A7, c7, rfl, ho7, hb7, hs7⟩
           have hk7 := hs7 _ _ _ (by decide) (by assumption : Whole _ wr.heap.size 116 #[.int .i64 l0, .int .i64 l1, .int .i64 l2])
           have HO7 := Lib.hid ho7
           have HB7 := Lib.hid (Below.trans HB6.out hb7)
           clear ho7 hb7 hs7))
      go_wp2_with (fail)
      go_roundw
      case rel =>
        refine ⟨A9, c9, k + 1, n + 4 + 4 + 2, by omega, by go_num, rfl, Lib.hid (by have := HN.out; omega), Lib.hid ?_, HB9⟩
        have h9 := HO9.out
        rw [HX.out, locsB_append, locsB, locsB, locB, List.append_nil]
        simpa [List.append_assoc] using h9
      case measure => simp [intOf]; omega
    · obtain rfl : k = ln := by omega
      have hR := HR.out
      have hN := HN.out
      rw [List.take_of_length_le (by omega)] at hR
      subst hN
      have HF := Lib.hid hR
      clear hR
      go_wp2_with (fail)
      go_ret
      have e1 := HNN.out
      have e2 := HPP.out
      subst e1 e2
      exact ⟨A, c, rfl, by simpa using HF.out, HB.out⟩
end Go.Proofs.Ytdkpbphgaenlnaa

/-
  rec.Right and rec.Put, of any record.
-/
namespace Go.Proofs.Ytdkpbphgaenlnaa
open Go.RowKit
set_option linter.unusedSimpArgs false
set_option linter.unusedVariables false
instance (r : Rc) : Decidable (PieceOk r) := by unfold PieceOk; infer_instance
instance (r : Rc) : Decidable (RootOk r) := by unfold RootOk; infer_instance
instance (r : Rc) : Decidable (InlineOk r) := by unfold InlineOk Bare; infer_instance
instance (r : Rc) : Decidable (TombOk r) := by unfold TombOk Bare; infer_instance

theorem call_rightPiece (a : Array Value) (w : World) : (callFunc 120 a).run Try.prog w = .ok (.enter 120 a) w := by kernel_rfl
theorem call_putPiece (a : Array Value) (w : World) : (callFunc 121 a).run Try.prog w = .ok (.enter 121 a) w := by kernel_rfl
theorem call_rightRoot (a : Array Value) (w : World) : (callFunc 123 a).run Try.prog w = .ok (.enter 123 a) w := by kernel_rfl
theorem call_putRoot (a : Array Value) (w : World) : (callFunc 124 a).run Try.prog w = .ok (.enter 124 a) w := by kernel_rfl
theorem call_rightInline (a : Array Value) (w : World) : (callFunc 126 a).run Try.prog w = .ok (.enter 126 a) w := by kernel_rfl
theorem call_putInline (a : Array Value) (w : World) : (callFunc 127 a).run Try.prog w = .ok (.enter 127 a) w := by kernel_rfl
theorem call_rightTomb (a : Array Value) (w : World) : (callFunc 129 a).run Try.prog w = .ok (.enter 129 a) w := by kernel_rfl
theorem call_putTomb (a : Array Value) (w : World) : (callFunc 130 a).run Try.prog w = .ok (.enter 130 a) w := by kernel_rfl
theorem right_Piece {r : Rc} (h : r.kind = 1) : RightR r ↔ PieceOk r := by
  unfold RightR
  rw [h]
  simp
theorem right_Root {r : Rc} (h : r.kind = 2) : RightR r ↔ RootOk r := by
  unfold RightR
  rw [h]
  simp
theorem right_Inline {r : Rc} (h : r.kind = 3) : RightR r ↔ InlineOk r := by
  unfold RightR
  rw [h]
  simp
theorem right_Tomb {r : Rc} (h : r.kind = 4) : RightR r ↔ TombOk r := by
  unfold RightR
  rw [h]
  simp
theorem right_else {r : Rc} (h : ¬ (r.kind = 1 ∨ r.kind = 2 ∨ r.kind = 3 ∨ r.kind = 4)) : ¬ RightR r := by
  unfold RightR
  omega
section
variable (r : Rc) (LA : Option Addr) (ln lc : Nat) (BA : Option Addr) (bn bc : Nat) (w : World)

theorem is_Piece (hin : RcIn w LA ln lc BA bn bc r) (w1 : World) (hg : Grows w w1) :
    Calls Try.prog 120 #[.agg #[.int .i64 r.kind, .string ⟨r.key.toArray⟩, .int .i64 r.id, .int .i64 r.no, .int .i64 r.size, .slice LA ln lc, .slice BA bn bc]] w1 fun e w2 => e = .returned (.bool (decide (PieceOk r))) ∧ Below w1.heap.size w1 w2 := by
  refine (rightPiece_any _ _ _ _ _ _ _ _ _ _ _ w1).mono ?_
  rintro e w2 ⟨rfl, hb⟩
  refine ⟨ret_bool ?_, hb⟩
  have h1 := hin.locs.len
  have h2 := hin.sl.len
  subst h1 h2
  rw [decide_eq_decide, str_size]
  rfl
theorem is_Root (hin : RcIn w LA ln lc BA bn bc r) (w1 : World) (hg : Grows w w1) :
    Calls Try.prog 123 #[.agg #[.int .i64 r.kind, .string ⟨r.key.toArray⟩, .int .i64 r.id, .int .i64 r.no, .int .i64 r.size, .slice LA ln lc, .slice BA bn bc]] w1 fun e w2 => e = .returned (.bool (decide (RootOk r))) ∧ Below w1.heap.size w1 w2 := by
  refine (rightRoot_any _ _ _ _ _ _ _ _ _ _ _ r.locs w1 (hin.locs.grow hg)).mono ?_
  rintro e w2 ⟨rfl, hb⟩
  refine ⟨ret_bool ?_, hb⟩
  have h1 := hin.locs.len
  have h2 := hin.sl.len
  subst h1 h2
  rw [decide_eq_decide, str_size]
  rfl
theorem is_Inline (hin : RcIn w LA ln lc BA bn bc r) (w1 : World) (hg : Grows w w1) :
    Calls Try.prog 126 #[.agg #[.int .i64 r.kind, .string ⟨r.key.toArray⟩, .int .i64 r.id, .int .i64 r.no, .int .i64 r.size, .slice LA ln lc, .slice BA bn bc]] w1 fun e w2 => e = .returned (.bool (decide (InlineOk r))) ∧ Below w1.heap.size w1 w2 := by
  refine (rightInline_any _ _ _ _ _ _ _ _ _ _ _ w1).mono ?_
  rintro e w2 ⟨rfl, hb⟩
  refine ⟨ret_bool ?_, hb⟩
  have h1 := hin.locs.len
  have h2 := hin.sl.len
  subst h1 h2
  rw [decide_eq_decide, str_size]
  rfl
theorem is_Tomb (hin : RcIn w LA ln lc BA bn bc r) (w1 : World) (hg : Grows w w1) :
    Calls Try.prog 129 #[.agg #[.int .i64 r.kind, .string ⟨r.key.toArray⟩, .int .i64 r.id, .int .i64 r.no, .int .i64 r.size, .slice LA ln lc, .slice BA bn bc]] w1 fun e w2 => e = .returned (.bool (decide (TombOk r))) ∧ Below w1.heap.size w1 w2 := by
  refine (rightTomb_any _ _ _ _ _ _ _ _ _ _ _ w1).mono ?_
  rintro e w2 ⟨rfl, hb⟩
  refine ⟨ret_bool ?_, hb⟩
  have h1 := hin.locs.len
  have h2 := hin.sl.len
  subst h1 h2
  rw [decide_eq_decide, str_size]
  rfl

theorem rcright_any (hin : RcIn w LA ln lc BA bn bc r) :
    Calls Try.prog 68 #[.agg #[.int .i64 r.kind, .string ⟨r.key.toArray⟩, .int .i64 r.id, .int .i64 r.no, .int .i64 r.size, .slice LA ln lc, .slice BA bn bc]] w fun e w' => e = .returned (.bool (decide (RightR r))) ∧ Below w.heap.size w w' := by
  by_cases h1 : r.kind = 1
  · rw [show decide (RightR r) = decide (PieceOk r) from decide_eq_decide.2 (right_Piece h1)]
    exact right_of _ _ _ _ _ _ _ _ _ _ _ w _ _ _ _ (by rw [h1]; rfl) (by rw [h1]; rfl) call_rightPiece (fun w1 hg => is_Piece r LA ln lc BA bn bc w hin w1 hg)
  by_cases h2 : r.kind = 2
  · rw [show decide (RightR r) = decide (RootOk r) from decide_eq_decide.2 (right_Root h2)]
    exact right_of _ _ _ _ _ _ _ _ _ _ _ w _ _ _ _ (by rw [h2]; rfl) (by rw [h2]; rfl) call_rightRoot (fun w1 hg => is_Root r LA ln lc BA bn bc w hin w1 hg)
  by_cases h3 : r.kind = 3
  · rw [show decide (RightR r) = decide (InlineOk r) from decide_eq_decide.2 (right_Inline h3)]
    exact right_of _ _ _ _ _ _ _ _ _ _ _ w _ _ _ _ (by rw [h3]; rfl) (by rw [h3]; rfl) call_rightInline (fun w1 hg => is_Inline r LA ln lc BA bn bc w hin w1 hg)
  by_cases h4 : r.kind = 4
  · rw [show decide (RightR r) = decide (TombOk r) from decide_eq_decide.2 (right_Tomb h4)]
    exact right_of _ _ _ _ _ _ _ _ _ _ _ w _ _ _ _ (by rw [h4]; rfl) (by rw [h4]; rfl) call_rightTomb (fun w1 hg => is_Tomb r LA ln lc BA bn bc w hin w1 hg)
  rw [decide_eq_false (right_else (by omega))]
  exact right_none _ _ _ _ _ _ _ _ _ _ _ w (by unfold wayOf; rw [if_neg h1, if_neg h2, if_neg h3, if_neg h4]) (decide_eq_false (by omega))

theorem put_own (hin : RcIn w LA ln lc BA bn bc r) :
    Calls Try.prog 69 #[.agg #[.int .i64 r.kind, .string ⟨r.key.toArray⟩, .int .i64 r.id, .int .i64 r.no, .int .i64 r.size, .slice LA ln lc, .slice BA bn bc]] w fun e w' => ∃ A' m c', e = .returned (.slice A' m c') ∧ w'.ownsRow w.heap.size 5 1 (.slice A' m c') m ((putR r).map byteV) ∧ Below w.heap.size w w' := by
  have hl1 := hin.locs.len
  have hl2 := hin.sl.len
  by_cases h1 : r.kind = 1
  · have e : putR r = if decide (PieceOk r) = true then byteI r.kind :: (numB r.id 6 ++ (numB r.no 2 ++ r.b)) else [] := by
      unfold putR bodyR
      by_cases hr : PieceOk r
      · rw [if_pos ((right_Piece h1).2 hr), decide_eq_true hr, if_pos rfl, if_pos h1]
      · rw [if_neg (fun h => hr ((right_Piece h1).1 h)), decide_eq_false hr]
        rfl
    rw [e]
    refine put_of _ _ _ _ _ _ _ _ _ _ _ w _ _ _ _ (by rw [h1]; rfl) (by rw [h1]; rfl) call_rightPiece (fun w1 hg => is_Piece r LA ln lc BA bn bc w hin w1 hg) _ call_putPiece ?_
    intro hq W A c hg ho
    have hq := of_decide_eq_true hq
    refine (putPiece_own w.heap.size A 1 c _ _ _ _ _ _ LA ln lc BA bn bc W ho hg.size (by omega) r.b w hin.sl hg (Nat.le_refl _) (by have := hq.2.2.2.2.2.2; omega)).mono ?_
    rintro e w' ⟨A', c', rfl, ho', hb'⟩
    refine ⟨A', _, c', rfl, ?_, hb'⟩
    first
      | exact ho'
      | (rw [hl1]; simpa [List.append_assoc] using ho')
      | simpa [List.append_assoc] using ho'
  by_cases h2 : r.kind = 2
  · have e : putR r = if decide (RootOk r) = true then byteI r.kind :: (keyP r.key ++ (numB r.id 6 ++ (numB r.size 3 ++ (numB r.locs.length 2 ++ locsB r.locs)))) else [] := by
      unfold putR bodyR
      by_cases hr : RootOk r
      · rw [if_pos ((right_Root h2).2 hr), decide_eq_true hr, if_pos rfl, if_neg (by omega), if_pos h2]
      · rw [if_neg (fun h => hr ((right_Root h2).1 h)), decide_eq_false hr]
        rfl
    rw [e]
    refine put_of _ _ _ _ _ _ _ _ _ _ _ w _ _ _ _ (by rw [h2]; rfl) (by rw [h2]; rfl) call_rightRoot (fun w1 hg => is_Root r LA ln lc BA bn bc w hin w1 hg) _ call_putRoot ?_
    intro hq W A c hg ho
    have hq := of_decide_eq_true hq
    refine (putRoot_own w.heap.size A 1 c _ _ _ _ _ _ LA ln lc BA bn bc W ho hg.size (by omega) hq.2.2.1.2 r.locs w hin.locs hg (Nat.le_refl _) (by have := hq.2.2.2.2.2.1; omega)).mono ?_
    rintro e w' ⟨A', c', rfl, ho', hb'⟩
    refine ⟨A', _, c', rfl, ?_, hb'⟩
    first
      | exact ho'
      | (rw [hl1]; simpa [List.append_assoc] using ho')
      | simpa [List.append_assoc] using ho'
  by_cases h3 : r.kind = 3
  · have e : putR r = if decide (InlineOk r) = true then byteI r.kind :: (keyP r.key ++ r.b) else [] := by
      unfold putR bodyR
      by_cases hr : InlineOk r
      · rw [if_pos ((right_Inline h3).2 hr), decide_eq_true hr, if_pos rfl, if_neg (by omega), if_neg (by omega), if_pos h3]
      · rw [if_neg (fun h => hr ((right_Inline h3).1 h)), decide_eq_false hr]
        rfl
    rw [e]
    refine put_of _ _ _ _ _ _ _ _ _ _ _ w _ _ _ _ (by rw [h3]; rfl) (by rw [h3]; rfl) call_rightInline (fun w1 hg => is_Inline r LA ln lc BA bn bc w hin w1 hg) _ call_putInline ?_
    intro hq W A c hg ho
    have hq := of_decide_eq_true hq
    refine (putInline_own w.heap.size A 1 c _ _ _ _ _ _ LA ln lc BA bn bc W ho hg.size (by omega) hq.2.1.2 r.b w hin.sl hg (Nat.le_refl _) (by have := hq.2.2; omega)).mono ?_
    rintro e w' ⟨A', c', rfl, ho', hb'⟩
    refine ⟨A', _, c', rfl, ?_, hb'⟩
    first
      | exact ho'
      | (rw [hl1]; simpa [List.append_assoc] using ho')
      | simpa [List.append_assoc] using ho'
  by_cases h4 : r.kind = 4
  · have e : putR r = if decide (TombOk r) = true then byteI r.kind :: (r.key) else [] := by
      unfold putR bodyR
      by_cases hr : TombOk r
      · rw [if_pos ((right_Tomb h4).2 hr), decide_eq_true hr, if_pos rfl, if_neg (by omega), if_neg (by omega), if_neg (by omega)]
      · rw [if_neg (fun h => hr ((right_Tomb h4).1 h)), decide_eq_false hr]
        rfl
    rw [e]
    refine put_of _ _ _ _ _ _ _ _ _ _ _ w _ _ _ _ (by rw [h4]; rfl) (by rw [h4]; rfl) call_rightTomb (fun w1 hg => is_Tomb r LA ln lc BA bn bc w hin w1 hg) _ call_putTomb ?_
    intro hq W A c hg ho
    have hq := of_decide_eq_true hq
    refine (putTomb_own w.heap.size A 1 c _ _ _ _ _ _ LA ln lc BA bn bc W ho hg.size (by omega) hq.2.1.2).mono ?_
    rintro e w' ⟨A', c', rfl, ho', hb'⟩
    refine ⟨A', _, c', rfl, ?_, hb'⟩
    first
      | exact ho'
      | (rw [hl1]; simpa [List.append_assoc] using ho')
      | simpa [List.append_assoc] using ho'
  refine (put_none _ _ _ _ _ _ _ _ _ _ _ w (by unfold wayOf; rw [if_neg h1, if_neg h2, if_neg h3, if_neg h4]) (decide_eq_false (by omega))).mono ?_
  rintro e w' ⟨rfl, hb⟩
  refine ⟨none, 0, 0, rfl, ?_, hb⟩
  unfold putR
  rw [if_neg (right_else (by omega))]
  exact World.ownsRow_nil _ _ _ _

end
end Go.Proofs.Ytdkpbphgaenlnaa
