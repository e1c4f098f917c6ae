import Derived.Test.YtlldcogkcjnejaaGreatMG15
import Derived.Test.YtlldcogkcjnejaaGreatRows
import Derived.Laws.AppendOwn
import Derived.KernelRfl
import Derived.Test.YtlldcogkcjnejaaGreatMG17
import Derived.RegionTactic
import Derived.BigRegion
import Derived.Laws.Cover3
import Derived.OwnWalk
import Derived.WalkSpells
import Derived.ChangeKeysEq
namespace Go.Proofs.YtlldcogkcjnejaaGreat
open Go.RowKit
abbrev It := Nat × Nat × List UInt8
abbrev Hd := Option Addr × Nat × Nat
def itV (t : It) (h : Hd) : List Value := [.int .i64 (t.1 : Nat), .int .i64 (t.2.1 : Nat), slV h]
def itCells : List It → List Hd → List Value
 | t :: ts, h :: hs => itV t h ++ itCells ts hs
 | _, _ => []
theorem itCells_length : ∀ (ts : List It) (hs : List Hd), ts.length = hs.length → (itCells ts hs).length = 3 * ts.length
 | [], [], _ => rfl
 | t :: ts, h :: hs, e => by
   have := itCells_length ts hs (by simpa using e)
   simp only [itCells, List.length_append, itV, List.length_cons, List.length_nil, this]
   omega
 | [], _ :: _, e => by cases e
 | _ :: _, [], e => by cases e
theorem itCells_append : ∀ (ts us : List It) (hs gs : List Hd), ts.length = hs.length → itCells (ts ++ us) (hs ++ gs) = itCells ts hs ++ itCells us gs
 | [], us, [], gs, _ => rfl
 | t :: ts, us, h :: hs, gs, e => by
   simp only [List.cons_append, itCells]
   rw [itCells_append ts us hs gs (by simpa using e), List.append_assoc]
 | [], _, _ :: _, _, e => by cases e
 | _ :: _, _, [], _, e => by cases e
theorem itCells_get : ∀ (ts : List It) (hs : List Hd) (i : Nat) (t : It) (h : Hd), ts[i]? = some t → hs[i]? = some h →
 (itCells ts hs)[3 * i]? = some (.int .i64 (t.1 : Nat)) ∧ (itCells ts hs)[3 * i + 1]? = some (.int .i64 (t.2.1 : Nat)) ∧ (itCells ts hs)[3 * i + 2]? = some (slV h)
 | t :: ts, h :: hs, 0, _, _, ht, hh => by
   simp only [List.getElem?_cons_zero, Option.some.injEq] at ht hh
   subst ht hh
   exact ⟨rfl, rfl, rfl⟩
 | t :: ts, h :: hs, i + 1, t', h', ht, hh => by
   obtain ⟨h1, h2, h3⟩ := itCells_get ts hs i t' h' (by simpa using ht) (by simpa using hh)
   have e : ∀ k, (itV t h ++ itCells ts hs)[3 + k]? = (itCells ts hs)[k]? := fun k => by
    rw [List.getElem?_append_right (by simp [itV])]
    simp [itV]
   refine ⟨?_, ?_, ?_⟩
   ·rw [show 3 * (i + 1) = 3 + 3 * i by omega]; exact (e _).trans h1
   ·rw [show 3 * (i + 1) + 1 = 3 + (3 * i + 1) by omega]; exact (e _).trans h2
   ·rw [show 3 * (i + 1) + 2 = 3 + (3 * i + 2) by omega]; exact (e _).trans h3
 | [], _, i, _, _, ht, _ => by simp at ht
 | _ :: _, [], i, _, _, _, hh => by simp at hh
structure Items (w : World) (A : Option Addr) (n c : Nat) (ts : List It) : Prop where
 len : ts.length = n
 cap : n ≤ c
 bare : A = none → c = 0
 rows : ∃ hs : List Hd, hs.length = n ∧ Row w w.heap.size A (3 * n) (itCells ts hs) ∧ ∀ (i : Nat) (h : Hd) (t : It), hs[i]? = some h → ts[i]? = some t → Sl w h.1 h.2.1 h.2.2 t.2.2
theorem Items.grow {w w' : World} {A : Option Addr} {n c : Nat} {ts : List It} (hg : Grows w w') (h : Items w A n c ts) : Items w' A n c ts := by
 obtain ⟨h1, h2, h3, hs, hl, hr, hq⟩ := h
 exact ⟨h1, h2, h3, hs, hl, hg.row hr, fun i x l hx hl => (hq i x l hx hl).grow hg⟩
theorem Items.get {w : World} {A : Option Addr} {n c : Nat} {ts : List It} (h : Items w A n c ts) {i : Nat} (hi : i < n) :
 ∃ ad B m d, A = some ad ∧ w.cell? (ad.add (3 * i)) = some (.int .i64 ((ts.getD i (0, 0, [])).1 : Nat)) ∧ w.cell? (ad.add (3 * i + 1)) = some (.int .i64 ((ts.getD i (0, 0, [])).2.1 : Nat)) ∧
  w.cell? (ad.add (3 * i + 2)) = some (.slice B m d) ∧ Sl w B m d (ts.getD i (0, 0, [])).2.2 := by
 obtain ⟨h1, _, _, hs, hl, hr, hq⟩ := h
 have hx : hs[i]? = some hs[i] := List.getElem?_eq_getElem (by omega)
 have ht : ts[i]? = some (ts.getD i (0, 0, [])) := by
  rw [List.getElem?_eq_getElem (by omega)]
  simp [show i < ts.length by omega]
 obtain ⟨g1, g2, g3⟩ := itCells_get ts hs i _ _ ht hx
 obtain ⟨ad, hA, _, c1⟩ := hr.spot _ _ g1
 obtain ⟨ad2, hA2, _, c2⟩ := hr.spot _ _ g2
 obtain ⟨ad3, hA3, _, c3⟩ := hr.spot _ _ g3
 rw [hA] at hA2 hA3
 injection hA2 with hA2
 injection hA3 with hA3
 subst hA2 hA3
 exact ⟨ad, hs[i].1, hs[i].2.1, hs[i].2.2, hA, c1, c2, c3, hq i _ _ hx ht⟩
theorem Items.spot {w : World} {A : Option Addr} {n c : Nat} {ts : List It} (h : Items w A n c ts) {i : Nat} (hi : i < n) :
 ∃ ad B m d, A = some ad ∧ (∀ w', Grows w w' → w'.cell? (ad.add (i * 3)) = some (.int .i64 ((ts.getD i (0, 0, [])).1 : Nat))) ∧
  (∀ w', Grows w w' → w'.cell? { block := (ad.add (i * 3)).block, off := (ad.add (i * 3)).off + 1 } = some (.int .i64 ((ts.getD i (0, 0, [])).2.1 : Nat))) ∧
  (∀ w', Grows w w' → w'.cell? { block := (ad.add (i * 3)).block, off := (ad.add (i * 3)).off + 2 } = some (.slice B m d)) ∧ Sl w B m d (ts.getD i (0, 0, [])).2.2 := by
 obtain ⟨ad, B, m, d, hA, c1, c2, c3, hs⟩ := h.get hi
 have e1 : ad.add (3 * i) = ad.add (i * 3) := by rw [Nat.mul_comm]
 have e2 : ad.add (3 * i + 1) = { block := (ad.add (i * 3)).block, off := (ad.add (i * 3)).off + 1 } := by rw [Nat.mul_comm, ← J5, Addr.add_succ' (ad.add (i * 3)) 0]
 have e3 : ad.add (3 * i + 2) = { block := (ad.add (i * 3)).block, off := (ad.add (i * 3)).off + 2 } := by rw [Nat.mul_comm, ← J5, Addr.add_succ' (ad.add (i * 3)) 1]
 have up : ∀ (p : Addr) (v : Value), w.cell? p = some v → ∀ w', Grows w w' → w'.cell? p = some v := fun p v hp w' hg => (hg.cell (World.block_lt_of_cell? w _ hp)).trans hp
 rw [e1] at c1
 rw [e2] at c2
 rw [e3] at c3
 exact ⟨ad, B, m, d, hA, up _ _ c1, up _ _ c2, up _ _ c3, hs⟩
theorem Items.owned {w : World} {base : Nat} {e : TypeId} {A : Option Addr} {n c : Nat} {ts : List It} {hs : List Hd} (hl : ts.length = hs.length) (hn : ts.length = n) (h : w.ownsRow base e 3 (.slice A n c) n (itCells ts hs))
 (hq : ∀ (i : Nat) (h : Hd) (t : It), hs[i]? = some h → ts[i]? = some t → Sl w h.1 h.2.1 h.2.2 t.2.2) : Items w A n c ts := by
 refine ⟨hn, ?_, ?_, hs, by omega, ?_, hq⟩
 ·rcases h.2 with ⟨h1, h2⟩ | ⟨g, cap, _, h1, _, _, h2, _⟩
  ·omega
  ·injection h1 with _ _ h1; omega
 ·intro hA
  rcases h.2 with ⟨h1, h2⟩ | ⟨g, cap, _, h1, _⟩
  ·injection h1
  ·injection h1 with h1 _ _; rw [hA] at h1; cases h1
 ·refine ⟨by rw [itCells_length ts hs hl, hn], fun k v hv => ?_⟩
  have hpos : 0 < n := by
   rcases Nat.eq_zero_or_pos n with h0 | h0
   ·subst h0
    have : itCells ts hs = [] := List.eq_nil_of_length_eq_zero (by rw [itCells_length ts hs hl, hn])
    rw [this] at hv
    simp at hv
   ·exact h0
  obtain ⟨g, cap, hval, _, hlt⟩ := h.form hpos
  injection hval with hA _ _
  subst hA
  exact ⟨_, rfl, hlt, h.cells (g := g) rfl k v hv⟩
theorem infoItem : (Tryz.prog.info? 109).map (fun i => (i.zero, i.size, i.bytes)) = some (some (.agg #[.int .i64 0, .int .i64 0, .slice none 0 0]), 3, 40) := by kernel_rfl
def Y9 (w : World) (base : Nat) (hs : List Hd) (ts : List It) : Prop :=
 hs.length = ts.length ∧ ∀ (i : Nat) (h : Hd) (t : It), hs[i]? = some h → ts[i]? = some t → w.ownsRow base 5 1 (slV h) h.2.1 (t.2.2.map byteV)
theorem Y9.nil (w : World) (base : Nat) : Y9 w base [] [] := ⟨rfl, fun i h t hh => by simp at hh⟩
theorem Y9.step {w w' : World} {base : Nat} {hs : List Hd} {ts : List It} (hb : Y9 w base hs ts)
 (hk : ∀ (v : Value) (n : Nat) (xs : List Value), w.ownsRow base 5 1 v n xs → w'.ownsRow base 5 1 v n xs) : Y9 w' base hs ts :=
 ⟨hb.1, fun i h t hh ht => hk _ _ _ (hb.2 i h t hh ht)⟩
theorem Y9.snoc {w : World} {base : Nat} {hs : List Hd} {ts : List It} (hb : Y9 w base hs ts) {h : Hd} {t : It} (ho : w.ownsRow base 5 1 (slV h) h.2.1 (t.2.2.map byteV)) : Y9 w base (hs ++ [h]) (ts ++ [t]) := by
 refine ⟨by rw [List.length_append, List.length_append, hb.1]; rfl, fun i x y hx hy => ?_⟩
 by_cases hi : i < hs.length
 ·rw [List.getElem?_append_left hi] at hx
  rw [List.getElem?_append_left (by rw [← hb.1]; exact hi)] at hy
  exact hb.2 i x y hx hy
 ·rw [List.getElem?_append_right (by omega)] at hx
  rw [List.getElem?_append_right (by rw [← hb.1]; omega)] at hy
  have hi0 : i - hs.length = 0 := by
   rcases Nat.eq_zero_or_pos (i - hs.length) with h0 | h0
   ·exact h0
   ·rw [List.getElem?_eq_none (by simp; omega)] at hx; cases hx
  rw [← hb.1] at hy
  rw [hi0] at hx hy
  simp only [List.getElem?_cons_zero, Option.some.injEq] at hx hy
  subst hx hy
  exact ho
theorem Sl.owned' {w : World} {base : Nat} {h : Hd} {bs : List UInt8} (ho : w.ownsRow base 5 1 (slV h) h.2.1 (bs.map byteV)) : Sl w h.1 h.2.1 h.2.2 bs := Sl.owned ho
theorem Zaw {w : World} {base base' : Nat} {A : Option Addr} {n c : Nat} {ts : List It} {hs : List Hd} (hn : ts.length = n) (h : w.ownsRow base 109 3 (.slice A n c) n (itCells ts hs)) (hb : Y9 w base' hs ts) : Items w A n c ts :=
 Items.owned hb.1.symm hn h fun i x t hx ht => Sl.owned' (hb.2 i x t hx ht)
theorem Zhw {w : World} {base : Nat} {e : TypeId} {size : Nat} {v : Value} {n : Nat} {xs : List Value} (h : w.ownsRow base e size v n xs) : ∃ A c, v = .slice A n c := by
 rcases h.2 with ⟨rfl, rfl⟩ | ⟨g, cap, _, rfl, _⟩
 ·exact ⟨none, 0, rfl⟩
 ·exact ⟨_, cap, rfl⟩
theorem Zd9 {w : World} {b1 b2 : Nat} {e1 e2 : TypeId} {s1 s2 : Nat} {v1 v2 : Value} {n1 n2 : Nat} {xs1 xs2 : List Value} (h1 : w.ownsRow b1 e1 s1 v1 n1 xs1) (h2 : w.ownsRow b2 e2 s2 v2 n2 xs2) (hne : e1 ≠ e2) : v1.ownBlock = none ∨ v1.ownBlock ≠ v2.ownBlock := by
 rcases h1.2 with ⟨rfl, _⟩ | ⟨g, cap, cur, rfl, _, hg, _⟩
 ·exact .inl rfl
 refine .inr fun e => ?_
 rcases h2.2 with ⟨rfl, _⟩ | ⟨g', cap', cur', rfl, _, hg', _⟩
 ·simp [Value.ownBlock] at e
 ·obtain rfl : g = g' := by simpa [Value.ownBlock] using e
  rw [hg] at hg'
  injection hg' with hg'
  injection hg' with _ ht _
  exact hne ht
theorem Zc5 (ts : List It) (hs : List Hd) (t : It) (h : Hd) (hl : ts.length = hs.length) : itCells (ts ++ [t]) (hs ++ [h]) = itCells ts hs ++ itV t h := by
 rw [itCells_append _ _ _ _ hl]
 simp [itCells]
theorem Znv (t : It) (h : Hd) : ∀ u ∈ itV t h, u.oneCell' = true := by
 intro u hu
 simp only [itV, List.mem_cons, List.not_mem_nil, or_false] at hu
 rcases hu with rfl | rfl | rfl <;> rfl
theorem Zqu {w : World} {g ty : Nat} {t : It} {h : Hd} (hw : Whole w g ty #[.int .i64 (t.1 : Nat), .int .i64 (t.2.1 : Nat), slV h]) : ∀ j u, (itV t h)[j]? = some u → w.cell? ((⟨g, 0, none⟩ : Addr).add j) = some u := by
 intro j u hj
 rw [show (⟨g, 0, none⟩ : Addr).add j = ⟨g, j, none⟩ by unfold Addr.add; split <;> simp_all, hw.cell j]
 simpa [itV] using hj
section
variable {ops : Array Oper} {rest : List Oper} {o : Oper} {a : Act} {w : World} {Q : Exit → Act → World → Prop}
theorem Zc9 (hgd : o.guard = none) (s x : Operand) (ho : o.op = .call { callee := .builtin .append, args := #[s, x], argTypes := #[97, 97] })
 {base : Nat} {LA : Option Addr} {n lc : Nat} {ts : List It} {hh : List Hd} (hs : a.eval s = .slice LA n lc) (hown : w.ownsRow base 109 3 (.slice LA n lc) n (itCells ts hh)) (hl : ts.length = hh.length)
 {g ty : Nat} (t : It) (h : Hd) (hx : a.eval x = .slice (some ⟨g, 0, none⟩) 1 1) (hw : Whole w g ty #[.int .i64 (t.1 : Nat), .int .i64 (t.2.1 : Nat), slV h]) (hn : n ≤ 1000000) (hbase : base ≤ w.heap.size)
 (hk : ∀ A' c' w', w'.ownsRow base 109 3 (.slice A' (n + 1) c') (n + 1) (itCells (ts ++ [t]) (hh ++ [h])) → Below base w w' →
   (∀ (b' size : Nat) (v : Value) (m : Nat) (ys : List Value), w.ownsRow b' 5 size v m ys → w'.ownsRow b' 5 size v m ys) → wpList Tryz.prog ops Q rest (a.put o.dst (.slice A' (n + 1) c')) w') : wpList Tryz.prog ops Q (o :: rest) a w := by
 obtain ⟨i0, hi, hz0, hz1, hz2⟩ := info_parts infoItem
 refine wpList_append_own w hgd s x 97 ho base 109 i0 _ 3 40 Tryz.underlying97 hi hz0 hz1 hz2 rfl (by decide) (.slice LA n lc) n (itCells ts hh) hs hown ⟨g, 0, none⟩ 1 1 (itV t h) hx rfl (Zqu hw) (Znv t h) (by unfold maxLen; omega) (by omega) hbase fun v' w' h1 h2 _ => ?_
 obtain ⟨A', c', rfl⟩ := Zhw h1
 rw [← Zc5 _ _ _ _ hl] at h1
 exact hk A' c' w' h1 ((Below.refl _ w).grown h2 hbase fun k hk => (hown.lt k hk).1) fun b' size v m ys hy => hy.kept h2 (Zd9 hy hown (by decide))
end
open Go.Lib (hid)
theorem Zhy (ad : Addr) (n c : Nat) (w : World) : (binOp BinOp.eql 31 (.slice (some ad) n c) (.slice none 0 0)).run Tryz.prog w = .ok (.bool false) w :=
 Lib.run_eql_slice_nil w 31 _ (some ad) n c 0 0 Tryz.underlying31
theorem cellsU8 : Tryz.prog.cellsOf 5 = 1 := by kernel_rfl
theorem eq4 (a0 a1 a2 a3 b0 b1 b2 b3 : UInt8) (w : World) : (Op.equalIn 10000 131 (.agg #[.int .u8 (a0.toNat : Nat), .int .u8 (a1.toNat : Nat), .int .u8 (a2.toNat : Nat), .int .u8 (a3.toNat : Nat)]) (.agg #[.int .u8 (b0.toNat : Nat), .int .u8 (b1.toNat : Nat), .int .u8 (b2.toNat : Nat), .int .u8 (b3.toNat : Nat)])).run Tryz.prog w = .ok (decide ([a0, a1, a2, a3] = [b0, b1, b2, b3])) w := by
 obtain ⟨i0, hi, hz0, hz1, hz2⟩ := info_parts infoU8
 rw [run_equalIn_array w 9999 _ _ Tryz.underlying131 hi, cellsU8]
 simp only [List.range, List.range.loop, Op.eqItems]
 go_simp
 have e : ∀ a b : UInt8, (((a.toNat : Nat) : Int) = ((b.toNat : Nat) : Int)) = (a = b) := fun a b => propext ⟨fun h => UInt8.toNat_inj.1 (by omega), fun h => by rw [h]⟩
 simp only [e]
 by_cases h0 : a0 = b0 <;> by_cases h1 : a1 = b1 <;> by_cases h2 : a2 = b2 <;> by_cases h3 : a3 = b3 <;> simp [h0, h1, h2, h3]
set_option maxRecDepth 100000 in
set_option maxHeartbeats 400000 in
theorem Zk6 (A : Option Addr) (n c : Nat) (bs : List UInt8) (w : World) (hs : Sl w A n c bs) (hn : n ≤ 140737488351232) (hA : A ≠ none) :
 Calls Tryz.prog 95 #[.slice A n c] w fun e w' => ∃ A' c', e = .returned (.slice A' n c') ∧ w'.ownsRow w.heap.size 5 1 (.slice A' n c') n (bs.map byteV) ∧ Below w.heap.size w w' := by
 obtain ⟨i0, hi, hz0, hz1, hz2⟩ := info_parts infoU8
 have HI := hid hi
 have HZ := hid (And.intro hz0 (And.intro hz1 hz2))
 have HS := hid hs
 clear hs hi hz0 hz1 hz2
 obtain ⟨ad, rfl⟩ := Option.ne_none_iff_exists'.1 hA
 clear hA
 have hnil := Zhy ad n c w
 go_enter Tryz.func95, Tryz.ntmps95
 go_wp2_with (first
  | (at_builtin
     refine Z6 rfl (.tmp 5) (.tmp 6) _ rfl Tryz.underlying31 HI.out HZ.out.1 HZ.out.2.1 HZ.out.2.2 rfl (v := .slice (some ⟨w.heap.size, 0, none⟩) 0 0) rfl (World.ownsRow_lit w #[] 0 (Nat.le_refl _) (Nat.zero_le _) rfl) (A := some ad) (m := n) (c := c) rfl (HS.out.alloc _).bytes (fun h => by cases h) (Yg bs) n (by omega) (bs.map byteV) rfl (by unfold maxLen; omega) (by omega) (by simp) ?_
     intro A1 c1 w1 hown1 hbare1 hg1 hat1
     have hb1 : Below w.heap.size w w1 := (((Below.refl _ _).alloc (Nat.le_refl _) _).grown hg1 (by simp) (fun k hk => by injection hk with hk; exact Nat.le_of_eq hk))
     have HOWN1 := hid hown1
     have HB1 := hid hb1
     clear hown1 hbare1 hg1 hat1 hb1))
 go_ret
 exact ⟨A1, c1, rfl, HOWN1.out, HB1.out⟩
set_option maxRecDepth 100000 in
set_option maxHeartbeats 400000 in
theorem Zi2 (A : Option Addr) (n c : Nat) (w : World) (h : n < 4) :
 Calls Tryz.prog 50 #[.slice A n c] w fun e w' => e = .returned (.tuple #[.slice none 0 0, .int .i64 0, .int .i64 21]) ∧ Below w.heap.size w w' := by
 go_enter Tryz.func50, Tryz.ntmps50
 go_wp2_with (fail)
 go_ret3
 exact ⟨rfl, Below.refl _ _⟩
theorem Za9 (x y : Nat) (hx : x < 256) (hy : y < 256) : bits BinOp.or IntKind.i64 (wrap64 (wrap64 (x : Int) * 256)) (wrap64 (y : Int)) = ((256 * x + y : Nat) : Int) := by
 have e1 : wrap64 (wrap64 (x : Int) * 256) = ((x * 256 : Nat) : Int) := by unfold wrap64; omega
 have e2 : wrap64 (y : Int) = (y : Int) := by unfold wrap64; omega
 have h1 : ∀ z : Nat, z < 4294967296 → (BitVec.ofInt 64 (z : Int)).toNat = z := fun z hz => by
  rw [BitVec.ofInt_natCast, BitVec.toNat_ofNat]; exact Nat.mod_eq_of_lt (by omega)
 rw [e1, e2]
 show IntKind.i64.wrap ((BitVec.ofInt 64 ((x * 256 : Nat) : Int) ||| BitVec.ofInt 64 (y : Int)).toNat : Int) = _
 rw [BitVec.toNat_or, h1 _ (by omega), h1 y (by omega), Nat.or_comm, nat_join8' _ _ (by omega) hy, IntKind.wrap_i64]
 omega
theorem Zfl {w w' : World} {ad : Addr} {n c L : Nat} {bs : List UInt8} {y0 y1 y2 y3 : UInt8} (hg : Grows w w') (hs : Sl w (some ad) n c bs) (hy : (bs.drop L).take 4 = [y0, y1, y2, y3]) (hL : L + 4 ≤ n) :
 w'.cell? (ad.add L) = some (.int .u8 (y0.toNat : Nat)) ∧ w'.cell? { block := (ad.add L).block, off := (ad.add L).off + 1 } = some (.int .u8 (y1.toNat : Nat)) ∧ w'.cell? { block := (ad.add L).block, off := (ad.add L).off + 2 } = some (.int .u8 (y2.toNat : Nat)) ∧ w'.cell? { block := (ad.add L).block, off := (ad.add L).off + 3 } = some (.int .u8 (y3.toNat : Nat)) := by
 have hb := (hs.grow hg).bytes
 have hl := hs.len
 have key : ∀ j, j < 4 → w'.cell? ((ad.add L).add j) = some (.int .u8 (([y0, y1, y2, y3].getD j 0).toNat : Nat)) := fun j hj => by
  obtain ⟨_, e, _, hc⟩ := hb.spot (k := L + j) (by omega)
  injection e with e
  subst e
  rw [J5, hc, ← hy]
  congr 4
  simp only [List.getD_eq_getElem?_getD, List.getElem?_take, List.getElem?_drop, if_pos hj]
 have k0 := key 0 (by omega)
 have k1 := key 1 (by omega)
 have k2 := key 2 (by omega)
 have k3 := key 3 (by omega)
 simp only [List.getD_cons_zero, List.getD_cons_succ, Addr.add_zero', Addr.add_succ' (ad.add L), Nat.zero_add, Nat.reduceAdd] at k0 k1 k2 k3
 exact ⟨k0, k1, k2, k3⟩
set_option maxRecDepth 100000 in
set_option maxHeartbeats 2000000 in
theorem Zk7 (ad : Addr) (n c : Nat) (b0 b1 b2 b3 : UInt8) (bs : List UInt8) (w : World) (hs : Sl w (some ad) n c (b0 :: b1 :: b2 :: b3 :: bs)) (T : Nat) (hT : 256 * b0.toNat + b1.toNat = T) (h0 : ¬ (1 ≤ T ∧ T ≤ 8192)) :
 Calls Tryz.prog 50 #[.slice (some ad) n c] w fun e w' => e = .returned (.tuple #[.slice none 0 0, .int .i64 0, .int .i64 22]) ∧ Below w.heap.size w w' := by
 obtain ⟨h4, c0, c1, c2, c3⟩ := Zi hs
 have hat : ∀ w, (Instr.arrayAt 131 (.slice (some ad) n c)).run Tryz.prog w = .ok (.pointer (some ad)) w := fun w => run_arrayAt w 131 _ 4 _ n c Tryz.underlying131 h4
 have h4' : ((n : Int) < 4) = False := by simp; omega
 have ht := Za9 b0.toNat b1.toNat b0.toNat_lt b1.toNat_lt
 rw [hT] at ht
 have hTb : T < 65536 := by have := b0.toNat_lt; have := b1.toNat_lt; omega
 have HS := hid hs
 have HT := hid hT
 have hbw : Below w.heap.size w (w.alloc (.cells #[.int .u8 (b0.toNat : Nat), .int .u8 (b1.toNat : Nat), .int .u8 (b2.toNat : Nat), .int .u8 (b3.toNat : Nat)] 131)) := (Below.refl _ _).alloc (Nat.le_refl _) _
 have hw := Whole.made w 131 #[.int .u8 (b0.toNat : Nat), .int .u8 (b1.toNat : Nat), .int .u8 (b2.toNat : Nat), .int .u8 (b3.toNat : Nat)]
 have HBW := hid hbw
 have HW := hid hw
 clear hT hs hbw hw
 have hz : sizeN (T : Int) = 0 := by unfold sizeN; rw [if_neg (by omega)]
 go_enter Tryz.func50, Tryz.ntmps50
 go_wp2_with (fail)
 refine (Jn _ _ (by omega) (by omega)).mono ?_
 rintro e w1 ⟨rfl, rfl⟩
 go_wp2_with (fail)
 clear c0 c1 c2 c3
 refine Zo (by kernel_rfl) (by kernel_rfl) ?_
 refine q_op (.int .i64 0) (by rfl) ?_ ?_
 ·intro w' hC; clear hC; go_simp
 simp only [Pu]
 refine q_op (.bool true) (by rfl) ?_ ?_
 ·intro w' hC; clear hC; go_simp
 simp only [Pu]
 refine q_op (.bool true) (by rfl) ?_ ?_
 ·intro w' hC; clear hC; go_simp
 simp only [Pu]
 refine Zje (by rfl) ?_
 simp only [Pu]
 refine Zje (by rfl) ?_
 simp only [Pu]
 refine Zje (by rfl) ?_
 simp only [Pu]
 refine Zje (by rfl) ?_
 simp only [Pu]
 refine q_op (.bool true) (by rfl) ?_ ?_
 ·intro w' hC; clear hC; go_simp
 simp only [Pu]
 refine wpQuiet_nil ?_
 intro w6 hC
 have HC6 := hid hC
 clear hC
 go_wp2_with (fail)
 go_ret3
 exact ⟨rfl, HBW.out.trans (HC6.out.mono (by simp))⟩
set_option maxRecDepth 100000 in
set_option maxHeartbeats 2000000 in
theorem Zhz (ad : Addr) (n c : Nat) (b0 b1 b2 b3 : UInt8) (bs : List UInt8) (w : World) (hs : Sl w (some ad) n c (b0 :: b1 :: b2 :: b3 :: bs)) (T : Nat) (hT : 256 * b0.toNat + b1.toNat = T) (h1 : 1 ≤ T) (h2 : T ≤ 8192) (hm : [b0, b1, b2, b3] ≠ headB T) :
 Calls Tryz.prog 50 #[.slice (some ad) n c] w fun e w' => e = .returned (.tuple #[.slice none 0 0, .int .i64 0, .int .i64 22]) ∧ Below w.heap.size w w' := by
 obtain ⟨h4, c0, c1, c2, c3⟩ := Zi hs
 have hat : ∀ w, (Instr.arrayAt 131 (.slice (some ad) n c)).run Tryz.prog w = .ok (.pointer (some ad)) w := fun w => run_arrayAt w 131 _ 4 _ n c Tryz.underlying131 h4
 have h4' : ((n : Int) < 4) = False := by simp; omega
 have ht := Za9 b0.toNat b1.toNat b0.toNat_lt b1.toNat_lt
 rw [hT] at ht
 have hTb : T < 65536 := by have := b0.toNat_lt; have := b1.toNat_lt; omega
 have HS := hid hs
 have HT := hid hT
 have hbw : Below w.heap.size w (w.alloc (.cells #[.int .u8 (b0.toNat : Nat), .int .u8 (b1.toNat : Nat), .int .u8 (b2.toNat : Nat), .int .u8 (b3.toNat : Nat)] 131)) := (Below.refl _ _).alloc (Nat.le_refl _) _
 have hw := Whole.made w 131 #[.int .u8 (b0.toNat : Nat), .int .u8 (b1.toNat : Nat), .int .u8 (b2.toNat : Nat), .int .u8 (b3.toNat : Nat)]
 have HBW := hid hbw
 have HW := hid hw
 clear hT hs hbw hw
 have hz : sizeN (T : Int) = ((T + 8 : Nat) : Int) := by unfold sizeN; rw [if_pos (by omega)]; rfl
 obtain ⟨z0, z1, z2, z3, hh⟩ := four (Y1 T)
 have hN : ∀ w, (Op.equalIn 10000 131 (.agg #[.int .u8 (b0.toNat : Nat), .int .u8 (b1.toNat : Nat), .int .u8 (b2.toNat : Nat), .int .u8 (b3.toNat : Nat)]) (.agg #[.int .u8 (z0.toNat : Nat), .int .u8 (z1.toNat : Nat), .int .u8 (z2.toNat : Nat), .int .u8 (z3.toNat : Nat)])).run Tryz.prog w = .ok false w := fun w => by rw [eq4, ← hh]; simp [hm]
 have hf := fun w => Zbm T w hTb
 rw [hh, Zbn] at hf
 have HF := hid hf
 have HN := hid hN
 have HH := hid hh
 clear hf hN hh
 have hZ : ((T + 8 : Nat) : Int) ≠ 0 := by omega
 generalize hZe : ((T + 8 : Nat) : Int) = Z at *
 have hZ0 : (Z == 0) = false := by simpa using hZ
 go_enter Tryz.func50, Tryz.ntmps50
 go_wp2_with (fail)
 refine (Jn _ _ (by omega) (by omega)).mono ?_
 rintro e w1 ⟨rfl, rfl⟩
 go_wp2_with (fail)
 clear c0 c1 c2 c3
 refine Zo (by kernel_rfl) (by kernel_rfl) ?_
 refine q_op (.int .i64 Z) (by rfl) ?_ ?_
 ·intro w' hC; clear hC; go_simp
 simp only [Pu]
 refine q_op (.bool false) (by rfl) ?_ ?_
 ·intro w' hC; clear hC; go_simp
 simp only [Pu]
 refine q_op (.bool false) (by rfl) ?_ ?_
 ·intro w' hC; clear hC; go_simp
 simp only [Pu]
 refine q_op (.agg #[.int .u8 (b0.toNat : Nat), .int .u8 (b1.toNat : Nat), .int .u8 (b2.toNat : Nat), .int .u8 (b3.toNat : Nat)]) (by rfl) ?_ ?_
 ·intro w' hC; have c0 := (Grows.whole hC HW.out).cell 0; have c1 := (Grows.whole hC HW.out).cell 1; have c2 := (Grows.whole hC HW.out).cell 2; have c3 := (Grows.whole hC HW.out).cell 3; simp only [Gt] at c0 c1 c2 c3; clear hC; go_simp
 simp only [Pu]
 refine q_op (.int .i64 (T : Int)) (by rfl) ?_ ?_
 ·intro w' hC; clear hC; go_simp
 simp only [Pu]
 refine Ze0 90 #[.int .i64 (T : Int)] (.agg #[.int .u8 (z0.toNat : Nat), .int .u8 (z1.toNat : Nat), .int .u8 (z2.toNat : Nat), .int .u8 (z3.toNat : Nat)]) (by rfl) (by intro w' hC; clear hC; go_simp) ?_ ?_
 ·intro w' hC; refine HF.out w' |>.mono ?_; rintro e w2 ⟨he, hb2⟩; exact ⟨he, Grows.trans hC hb2⟩
 simp only [Pu]
 refine q_op (.bool true) (by rfl) ?_ ?_
 ·intro w' hC; have hN := HN.out w'; clear hC; go_simp
 simp only [Pu]
 refine q_op (.bool true) (by rfl) ?_ ?_
 ·intro w' hC; clear hC; go_simp
 simp only [Pu]
 refine wpQuiet_nil ?_
 intro w6 hC
 have HC6 := hid hC
 clear hC
 go_wp2_with (fail)
 go_ret3
 exact ⟨rfl, HBW.out.trans (HC6.out.mono (by simp))⟩
set_option maxRecDepth 100000 in
set_option maxHeartbeats 2000000 in
theorem Znw (ad : Addr) (n c : Nat) (b0 b1 b2 b3 : UInt8) (bs : List UInt8) (w : World) (hs : Sl w (some ad) n c (b0 :: b1 :: b2 :: b3 :: bs)) (T : Nat) (hT : 256 * b0.toNat + b1.toNat = T) (h1 : 1 ≤ T) (h2 : T ≤ 8192) (hm : [b0, b1, b2, b3] = headB T) (h3 : n < T + 8) :
 Calls Tryz.prog 50 #[.slice (some ad) n c] w fun e w' => e = .returned (.tuple #[.slice none 0 0, .int .i64 0, .int .i64 21]) ∧ Below w.heap.size w w' := by
 obtain ⟨h4, c0, c1, c2, c3⟩ := Zi hs
 have hat : ∀ w, (Instr.arrayAt 131 (.slice (some ad) n c)).run Tryz.prog w = .ok (.pointer (some ad)) w := fun w => run_arrayAt w 131 _ 4 _ n c Tryz.underlying131 h4
 have h4' : ((n : Int) < 4) = False := by simp; omega
 have ht := Za9 b0.toNat b1.toNat b0.toNat_lt b1.toNat_lt
 rw [hT] at ht
 have hTb : T < 65536 := by have := b0.toNat_lt; have := b1.toNat_lt; omega
 have HS := hid hs
 have HT := hid hT
 have hbw : Below w.heap.size w (w.alloc (.cells #[.int .u8 (b0.toNat : Nat), .int .u8 (b1.toNat : Nat), .int .u8 (b2.toNat : Nat), .int .u8 (b3.toNat : Nat)] 131)) := (Below.refl _ _).alloc (Nat.le_refl _) _
 have hw := Whole.made w 131 #[.int .u8 (b0.toNat : Nat), .int .u8 (b1.toNat : Nat), .int .u8 (b2.toNat : Nat), .int .u8 (b3.toNat : Nat)]
 have HBW := hid hbw
 have HW := hid hw
 clear hT hs hbw hw
 have h3' : ((n : Int) < ((T + 8 : Nat) : Int)) = True := by simp; omega
 have hz : sizeN (T : Int) = ((T + 8 : Nat) : Int) := by unfold sizeN; rw [if_pos (by omega)]; rfl
 obtain ⟨z0, z1, z2, z3, hh⟩ := four (Y1 T)
 have hN : ∀ w, (Op.equalIn 10000 131 (.agg #[.int .u8 (b0.toNat : Nat), .int .u8 (b1.toNat : Nat), .int .u8 (b2.toNat : Nat), .int .u8 (b3.toNat : Nat)]) (.agg #[.int .u8 (z0.toNat : Nat), .int .u8 (z1.toNat : Nat), .int .u8 (z2.toNat : Nat), .int .u8 (z3.toNat : Nat)])).run Tryz.prog w = .ok true w := fun w => by rw [eq4, ← hh]; simp [hm]
 have hf := fun w => Zbm T w hTb
 rw [hh, Zbn] at hf
 have HF := hid hf
 have HN := hid hN
 have HH := hid hh
 clear hf hN hh
 have hZ : ((T + 8 : Nat) : Int) ≠ 0 := by omega
 generalize hZe : ((T + 8 : Nat) : Int) = Z at *
 have hZ0 : (Z == 0) = false := by simpa using hZ
 go_enter Tryz.func50, Tryz.ntmps50
 go_wp2_with (fail)
 refine (Jn _ _ (by omega) (by omega)).mono ?_
 rintro e w1 ⟨rfl, rfl⟩
 go_wp2_with (fail)
 clear c0 c1 c2 c3
 refine Zo (by kernel_rfl) (by kernel_rfl) ?_
 refine q_op (.int .i64 Z) (by rfl) ?_ ?_
 ·intro w' hC; clear hC; go_simp
 simp only [Pu]
 refine q_op (.bool false) (by rfl) ?_ ?_
 ·intro w' hC; clear hC; go_simp
 simp only [Pu]
 refine q_op (.bool false) (by rfl) ?_ ?_
 ·intro w' hC; clear hC; go_simp
 simp only [Pu]
 refine q_op (.agg #[.int .u8 (b0.toNat : Nat), .int .u8 (b1.toNat : Nat), .int .u8 (b2.toNat : Nat), .int .u8 (b3.toNat : Nat)]) (by rfl) ?_ ?_
 ·intro w' hC; have c0 := (Grows.whole hC HW.out).cell 0; have c1 := (Grows.whole hC HW.out).cell 1; have c2 := (Grows.whole hC HW.out).cell 2; have c3 := (Grows.whole hC HW.out).cell 3; simp only [Gt] at c0 c1 c2 c3; clear hC; go_simp
 simp only [Pu]
 refine q_op (.int .i64 (T : Int)) (by rfl) ?_ ?_
 ·intro w' hC; clear hC; go_simp
 simp only [Pu]
 refine Ze0 90 #[.int .i64 (T : Int)] (.agg #[.int .u8 (z0.toNat : Nat), .int .u8 (z1.toNat : Nat), .int .u8 (z2.toNat : Nat), .int .u8 (z3.toNat : Nat)]) (by rfl) (by intro w' hC; clear hC; go_simp) ?_ ?_
 ·intro w' hC; refine HF.out w' |>.mono ?_; rintro e w2 ⟨he, hb2⟩; exact ⟨he, Grows.trans hC hb2⟩
 simp only [Pu]
 refine q_op (.bool false) (by rfl) ?_ ?_
 ·intro w' hC; have hN := HN.out w'; clear hC; go_simp
 simp only [Pu]
 refine q_op (.bool false) (by rfl) ?_ ?_
 ·intro w' hC; clear hC; go_simp
 simp only [Pu]
 refine wpQuiet_nil ?_
 intro w6 hC
 have HC6 := hid hC
 clear hC
 go_wp2_with (fail)
 go_ret3
 exact ⟨rfl, HBW.out.trans (HC6.out.mono (by simp))⟩
set_option maxRecDepth 100000 in
set_option maxHeartbeats 2000000 in
theorem Znx (ad : Addr) (n c : Nat) (b0 b1 b2 b3 : UInt8) (bs : List UInt8) (w : World) (hs : Sl w (some ad) n c (b0 :: b1 :: b2 :: b3 :: bs)) (T : Nat) (hT : 256 * b0.toNat + b1.toNat = T) (h1 : 1 ≤ T) (h2 : T ≤ 8192) (hm : [b0, b1, b2, b3] = headB T) (h3 : T + 8 ≤ n) (hx : ((b0 :: b1 :: b2 :: b3 :: bs).drop (T + 4)).take 4 ≠ tailB ((b0 :: b1 :: b2 :: b3 :: bs).take (T + 4))) :
 Calls Tryz.prog 50 #[.slice (some ad) n c] w fun e w' => e = .returned (.tuple #[.slice none 0 0, .int .i64 ((T + 8 : Nat) : Int), .int .i64 22]) ∧ Below w.heap.size w w' := by
 obtain ⟨h4, c0, c1, c2, c3⟩ := Zi hs
 have hat : ∀ w, (Instr.arrayAt 131 (.slice (some ad) n c)).run Tryz.prog w = .ok (.pointer (some ad)) w := fun w => run_arrayAt w 131 _ 4 _ n c Tryz.underlying131 h4
 have h4' : ((n : Int) < 4) = False := by simp; omega
 have ht := Za9 b0.toNat b1.toNat b0.toNat_lt b1.toNat_lt
 rw [hT] at ht
 have hTb : T < 65536 := by have := b0.toNat_lt; have := b1.toNat_lt; omega
 have HS := hid hs
 have HT := hid hT
 have hbw : Below w.heap.size w (w.alloc (.cells #[.int .u8 (b0.toNat : Nat), .int .u8 (b1.toNat : Nat), .int .u8 (b2.toNat : Nat), .int .u8 (b3.toNat : Nat)] 131)) := (Below.refl _ _).alloc (Nat.le_refl _) _
 have hw := Whole.made w 131 #[.int .u8 (b0.toNat : Nat), .int .u8 (b1.toNat : Nat), .int .u8 (b2.toNat : Nat), .int .u8 (b3.toNat : Nat)]
 have HBW := hid hbw
 have HW := hid hw
 clear hT hs hbw hw
 have h3' : ((n : Int) < ((T + 8 : Nat) : Int)) = False := by simp; omega
 obtain ⟨L, hL⟩ : ∃ L, L = T + 4 := ⟨_, rfl⟩
 have hLI : (4 : Int) + (T : Int) = (L : Int) := by omega
 have hcap := HS.out.cap
 have hlen := HS.out.len
 have HLB : Hid ((0 : Int) ≤ (L : Int) ∧ (L : Int) ≤ (n : Int) ∧ (n : Int) ≤ (c : Int) ∧ ¬ c = L ∧ (L : Int) ≤ (c : Int)) := ⟨by omega, by omega, by omega, by omega, by omega⟩
 obtain ⟨y0, y1, y2, y3, hy⟩ := four (l := ((b0 :: b1 :: b2 :: b3 :: bs).drop L).take 4) (by rw [List.length_take, List.length_drop, hlen]; omega)
 obtain ⟨d0, d1, d2, d3, hd⟩ := four (Zan ((b0 :: b1 :: b2 :: b3 :: bs).take L))
 have hsl := Sl.first HS.out (show L ≤ n by omega)
 have hft := fun w' (hg : Grows w w') => Zd0 (some ad) L c _ w' (hsl.grow hg) (by unfold maxLen; omega)
 rw [hd, Zbn] at hft
 have HFT := hid hft
 have hN2 : ∀ w, (Op.equalIn 10000 131 (.agg #[.int .u8 (y0.toNat : Nat), .int .u8 (y1.toNat : Nat), .int .u8 (y2.toNat : Nat), .int .u8 (y3.toNat : Nat)]) (.agg #[.int .u8 (d0.toNat : Nat), .int .u8 (d1.toNat : Nat), .int .u8 (d2.toNat : Nat), .int .u8 (d3.toNat : Nat)])).run Tryz.prog w = .ok false w := fun w => by rw [eq4, ← hd, ← hy, hL, decide_eq_false hx]
 have HN2 := hid hN2
 have hce := fun w' (hg : Grows w w') => Zfl hg HS.out hy (by omega)
 have ha2 : ∀ w, (Instr.arrayAt 131 (.slice (some (ad.add L)) (n - L) (c - L))).run Tryz.prog w = .ok (.pointer (some (ad.add L))) w := fun w => run_arrayAt w 131 _ 4 _ (n - L) (c - L) Tryz.underlying131 (by omega)
 have HL := hid hL
 have HLEN := hid hlen
 clear hd hft hN2 hsl hcap hL hlen hy
 generalize hp : ad.add L = p at *
 have HP := hid hp
 have HA2 := hid ha2
 have HCE := hid hce
 clear hp ha2 hce
 have hz : sizeN (T : Int) = ((T + 8 : Nat) : Int) := by unfold sizeN; rw [if_pos (by omega)]; rfl
 obtain ⟨z0, z1, z2, z3, hh⟩ := four (Y1 T)
 have hN : ∀ w, (Op.equalIn 10000 131 (.agg #[.int .u8 (b0.toNat : Nat), .int .u8 (b1.toNat : Nat), .int .u8 (b2.toNat : Nat), .int .u8 (b3.toNat : Nat)]) (.agg #[.int .u8 (z0.toNat : Nat), .int .u8 (z1.toNat : Nat), .int .u8 (z2.toNat : Nat), .int .u8 (z3.toNat : Nat)])).run Tryz.prog w = .ok true w := fun w => by rw [eq4, ← hh]; simp [hm]
 have hf := fun w => Zbm T w hTb
 rw [hh, Zbn] at hf
 have HF := hid hf
 have HN := hid hN
 have HH := hid hh
 clear hf hN hh
 have hZ : ((T + 8 : Nat) : Int) ≠ 0 := by omega
 generalize hZe : ((T + 8 : Nat) : Int) = Z at *
 have hZ0 : (Z == 0) = false := by simpa using hZ
 go_enter Tryz.func50, Tryz.ntmps50
 go_wp2_with (fail)
 refine (Jn _ _ (by omega) (by omega)).mono ?_
 rintro e w1 ⟨rfl, rfl⟩
 go_wp2_with (fail)
 clear c0 c1 c2 c3
 refine Zo (by kernel_rfl) (by kernel_rfl) ?_
 refine q_op (.int .i64 Z) (by rfl) ?_ ?_
 ·intro w' hC; clear hC; go_simp
 simp only [Pu]
 refine q_op (.bool false) (by rfl) ?_ ?_
 ·intro w' hC; clear hC; go_simp
 simp only [Pu]
 refine q_op (.bool false) (by rfl) ?_ ?_
 ·intro w' hC; clear hC; go_simp
 simp only [Pu]
 refine q_op (.agg #[.int .u8 (b0.toNat : Nat), .int .u8 (b1.toNat : Nat), .int .u8 (b2.toNat : Nat), .int .u8 (b3.toNat : Nat)]) (by rfl) ?_ ?_
 ·intro w' hC; have c0 := (Grows.whole hC HW.out).cell 0; have c1 := (Grows.whole hC HW.out).cell 1; have c2 := (Grows.whole hC HW.out).cell 2; have c3 := (Grows.whole hC HW.out).cell 3; simp only [Gt] at c0 c1 c2 c3; clear hC; go_simp
 simp only [Pu]
 refine q_op (.int .i64 (T : Int)) (by rfl) ?_ ?_
 ·intro w' hC; clear hC; go_simp
 simp only [Pu]
 refine Ze0 90 #[.int .i64 (T : Int)] (.agg #[.int .u8 (z0.toNat : Nat), .int .u8 (z1.toNat : Nat), .int .u8 (z2.toNat : Nat), .int .u8 (z3.toNat : Nat)]) (by rfl) (by intro w' hC; clear hC; go_simp) ?_ ?_
 ·intro w' hC; refine HF.out w' |>.mono ?_; rintro e w2 ⟨he, hb2⟩; exact ⟨he, Grows.trans hC hb2⟩
 simp only [Pu]
 refine q_op (.bool false) (by rfl) ?_ ?_
 ·intro w' hC; have hN := HN.out w'; clear hC; go_simp
 simp only [Pu]
 refine q_op (.bool false) (by rfl) ?_ ?_
 ·intro w' hC; clear hC; go_simp
 simp only [Pu]
 refine wpQuiet_nil ?_
 intro w6 hC
 have HC6 := hid hC
 clear hC
 have hg6 : Grows w w6 := HBW.out.trans (HC6.out.mono (by simp))
 have HG6 := hid hg6
 clear hg6
 go_wp2_with (fail)
 refine Zo (by kernel_rfl) (by kernel_rfl) ?_
 refine q_op (.slice (some ad) n c) (by rfl) ?_ ?_
 ·intro w' hC; clear hC; go_simp
 simp only [Pu]
 refine q_op (.int .i64 (L : Int)) (by rfl) ?_ ?_
 ·intro w' hC; clear hC; go_simp
 simp only [Pu]
 refine q_op (.slice (some p) (n - L) (c - L)) (by rfl) ?_ ?_
 ·intro w' hC; have hp := HP.out; have hlb := HLB.out; obtain ⟨l0, l1, l2, l3, l4⟩ := hlb; clear hC; go_simp
 simp only [Pu]
 refine q_op (.pointer (some p)) (by rfl) ?_ ?_
 ·intro w' hC; have ha2 := HA2.out w'; clear hC; go_simp
 simp only [Pu]
 refine q_op (.agg #[.int .u8 (y0.toNat : Nat), .int .u8 (y1.toNat : Nat), .int .u8 (y2.toNat : Nat), .int .u8 (y3.toNat : Nat)]) (by rfl) ?_ ?_
 ·intro w' hC; have hce := HCE.out w' (Grows.trans HG6.out hC); obtain ⟨c0, c1, c2, c3⟩ := hce; clear hC; go_simp
 simp only [Pu]
 refine q_op (.slice (some ad) n c) (by rfl) ?_ ?_
 ·intro w' hC; clear hC; go_simp
 simp only [Pu]
 refine q_op (.int .i64 (L : Int)) (by rfl) ?_ ?_
 ·intro w' hC; clear hC; go_simp
 simp only [Pu]
 refine q_op (.slice (some ad) L c) (by rfl) ?_ ?_
 ·intro w' hC; have hlb := HLB.out; obtain ⟨l0, l1, l2, l3, l4⟩ := hlb; clear hC; go_simp
 simp only [Pu]
 refine Ze0 91 #[.slice (some ad) L c] (.agg #[.int .u8 (d0.toNat : Nat), .int .u8 (d1.toNat : Nat), .int .u8 (d2.toNat : Nat), .int .u8 (d3.toNat : Nat)]) (by rfl) (by intro w' hC; clear hC; go_simp) ?_ ?_
 ·intro w' hC; refine HFT.out w' (Grows.trans HG6.out hC) |>.mono ?_; rintro e w2 ⟨he, hb2⟩; exact ⟨he, Grows.trans hC hb2⟩
 simp only [Pu]
 refine q_op (.bool true) (by rfl) ?_ ?_
 ·intro w' hC; have hN := HN2.out w'; clear hC; go_simp
 simp only [Pu]
 refine wpQuiet_nil ?_
 intro w7 hC
 have HC7 := hid hC
 clear hC
 go_wp2_with (fail)
 go_ret3
 exact ⟨rfl, Grows.trans HG6.out HC7.out⟩
set_option maxRecDepth 100000 in
set_option maxHeartbeats 2000000 in
theorem Zp3 (ad : Addr) (n c : Nat) (b0 b1 b2 b3 : UInt8) (bs : List UInt8) (w : World) (hs : Sl w (some ad) n c (b0 :: b1 :: b2 :: b3 :: bs)) (T : Nat) (hT : 256 * b0.toNat + b1.toNat = T) (h1 : 1 ≤ T) (h2 : T ≤ 8192) (hm : [b0, b1, b2, b3] = headB T) (h3 : T + 8 ≤ n) (hreach : n ≤ 140737488351232) (hx : ((b0 :: b1 :: b2 :: b3 :: bs).drop (T + 4)).take 4 = tailB ((b0 :: b1 :: b2 :: b3 :: bs).take (T + 4))) :
 Calls Tryz.prog 50 #[.slice (some ad) n c] w fun e w' => ∃ A' c', e = .returned (.tuple #[.slice A' T c', .int .i64 ((T + 8 : Nat) : Int), .int .i64 0]) ∧ w'.ownsRow w.heap.size 5 1 (.slice A' T c') T ((((b0 :: b1 :: b2 :: b3 :: bs).drop 4).take T).map byteV) ∧ Below w.heap.size w w' := by
 obtain ⟨h4, c0, c1, c2, c3⟩ := Zi hs
 have hat : ∀ w, (Instr.arrayAt 131 (.slice (some ad) n c)).run Tryz.prog w = .ok (.pointer (some ad)) w := fun w => run_arrayAt w 131 _ 4 _ n c Tryz.underlying131 h4
 have h4' : ((n : Int) < 4) = False := by simp; omega
 have ht := Za9 b0.toNat b1.toNat b0.toNat_lt b1.toNat_lt
 rw [hT] at ht
 have hTb : T < 65536 := by have := b0.toNat_lt; have := b1.toNat_lt; omega
 have HS := hid hs
 have HT := hid hT
 have hbw : Below w.heap.size w (w.alloc (.cells #[.int .u8 (b0.toNat : Nat), .int .u8 (b1.toNat : Nat), .int .u8 (b2.toNat : Nat), .int .u8 (b3.toNat : Nat)] 131)) := (Below.refl _ _).alloc (Nat.le_refl _) _
 have hw := Whole.made w 131 #[.int .u8 (b0.toNat : Nat), .int .u8 (b1.toNat : Nat), .int .u8 (b2.toNat : Nat), .int .u8 (b3.toNat : Nat)]
 have HBW := hid hbw
 have HW := hid hw
 clear hT hs hbw hw
 have h3' : ((n : Int) < ((T + 8 : Nat) : Int)) = False := by simp; omega
 obtain ⟨L, hL⟩ : ∃ L, L = T + 4 := ⟨_, rfl⟩
 have hLI : (4 : Int) + (T : Int) = (L : Int) := by omega
 have hcap := HS.out.cap
 have hlen := HS.out.len
 have HLB : Hid ((0 : Int) ≤ (L : Int) ∧ (L : Int) ≤ (n : Int) ∧ (n : Int) ≤ (c : Int) ∧ ¬ c = L ∧ (L : Int) ≤ (c : Int)) := ⟨by omega, by omega, by omega, by omega, by omega⟩
 obtain ⟨y0, y1, y2, y3, hy⟩ := four (l := ((b0 :: b1 :: b2 :: b3 :: bs).drop L).take 4) (by rw [List.length_take, List.length_drop, hlen]; omega)
 obtain ⟨d0, d1, d2, d3, hd⟩ := four (Zan ((b0 :: b1 :: b2 :: b3 :: bs).take L))
 have hsl := Sl.first HS.out (show L ≤ n by omega)
 have hft := fun w' (hg : Grows w w') => Zd0 (some ad) L c _ w' (hsl.grow hg) (by unfold maxLen; omega)
 rw [hd, Zbn] at hft
 have HFT := hid hft
 have hN2 : ∀ w, (Op.equalIn 10000 131 (.agg #[.int .u8 (y0.toNat : Nat), .int .u8 (y1.toNat : Nat), .int .u8 (y2.toNat : Nat), .int .u8 (y3.toNat : Nat)]) (.agg #[.int .u8 (d0.toNat : Nat), .int .u8 (d1.toNat : Nat), .int .u8 (d2.toNat : Nat), .int .u8 (d3.toNat : Nat)])).run Tryz.prog w = .ok true w := fun w => by rw [eq4, ← hd, ← hy, hL, decide_eq_true hx]
 have HN2 := hid hN2
 have hce := fun w' (hg : Grows w w') => Zfl hg HS.out hy (by omega)
 have ha2 : ∀ w, (Instr.arrayAt 131 (.slice (some (ad.add L)) (n - L) (c - L))).run Tryz.prog w = .ok (.pointer (some (ad.add L))) w := fun w => run_arrayAt w 131 _ 4 _ (n - L) (c - L) Tryz.underlying131 (by omega)
 have HL := hid hL
 have HLEN := hid hlen
 clear hd hft hN2 hsl hcap hL hlen hy
 generalize hp : ad.add L = p at *
 have HP := hid hp
 have HA2 := hid ha2
 have HCE := hid hce
 clear hp ha2 hce
 have hz : sizeN (T : Int) = ((T + 8 : Nat) : Int) := by unfold sizeN; rw [if_pos (by omega)]; rfl
 obtain ⟨z0, z1, z2, z3, hh⟩ := four (Y1 T)
 have hN : ∀ w, (Op.equalIn 10000 131 (.agg #[.int .u8 (b0.toNat : Nat), .int .u8 (b1.toNat : Nat), .int .u8 (b2.toNat : Nat), .int .u8 (b3.toNat : Nat)]) (.agg #[.int .u8 (z0.toNat : Nat), .int .u8 (z1.toNat : Nat), .int .u8 (z2.toNat : Nat), .int .u8 (z3.toNat : Nat)])).run Tryz.prog w = .ok true w := fun w => by rw [eq4, ← hh]; simp [hm]
 have hf := fun w => Zbm T w hTb
 rw [hh, Zbn] at hf
 have HF := hid hf
 have HN := hid hN
 have HH := hid hh
 clear hf hN hh
 have hZ : ((T + 8 : Nat) : Int) ≠ 0 := by omega
 generalize hZe : ((T + 8 : Nat) : Int) = Z at *
 have hZ0 : (Z == 0) = false := by simpa using hZ
 go_enter Tryz.func50, Tryz.ntmps50
 go_wp2_with (fail)
 refine (Jn _ _ (by omega) (by omega)).mono ?_
 rintro e w1 ⟨rfl, rfl⟩
 go_wp2_with (fail)
 clear c0 c1 c2 c3
 refine Zo (by kernel_rfl) (by kernel_rfl) ?_
 refine q_op (.int .i64 Z) (by rfl) ?_ ?_
 ·intro w' hC; clear hC; go_simp
 simp only [Pu]
 refine q_op (.bool false) (by rfl) ?_ ?_
 ·intro w' hC; clear hC; go_simp
 simp only [Pu]
 refine q_op (.bool false) (by rfl) ?_ ?_
 ·intro w' hC; clear hC; go_simp
 simp only [Pu]
 refine q_op (.agg #[.int .u8 (b0.toNat : Nat), .int .u8 (b1.toNat : Nat), .int .u8 (b2.toNat : Nat), .int .u8 (b3.toNat : Nat)]) (by rfl) ?_ ?_
 ·intro w' hC; have c0 := (Grows.whole hC HW.out).cell 0; have c1 := (Grows.whole hC HW.out).cell 1; have c2 := (Grows.whole hC HW.out).cell 2; have c3 := (Grows.whole hC HW.out).cell 3; simp only [Gt] at c0 c1 c2 c3; clear hC; go_simp
 simp only [Pu]
 refine q_op (.int .i64 (T : Int)) (by rfl) ?_ ?_
 ·intro w' hC; clear hC; go_simp
 simp only [Pu]
 refine Ze0 90 #[.int .i64 (T : Int)] (.agg #[.int .u8 (z0.toNat : Nat), .int .u8 (z1.toNat : Nat), .int .u8 (z2.toNat : Nat), .int .u8 (z3.toNat : Nat)]) (by rfl) (by intro w' hC; clear hC; go_simp) ?_ ?_
 ·intro w' hC; refine HF.out w' |>.mono ?_; rintro e w2 ⟨he, hb2⟩; exact ⟨he, Grows.trans hC hb2⟩
 simp only [Pu]
 refine q_op (.bool false) (by rfl) ?_ ?_
 ·intro w' hC; have hN := HN.out w'; clear hC; go_simp
 simp only [Pu]
 refine q_op (.bool false) (by rfl) ?_ ?_
 ·intro w' hC; clear hC; go_simp
 simp only [Pu]
 refine wpQuiet_nil ?_
 intro w6 hC
 have HC6 := hid hC
 clear hC
 have hg6 : Grows w w6 := HBW.out.trans (HC6.out.mono (by simp))
 have HG6 := hid hg6
 clear hg6
 go_wp2_with (fail)
 refine Zo (by kernel_rfl) (by kernel_rfl) ?_
 refine q_op (.slice (some ad) n c) (by rfl) ?_ ?_
 ·intro w' hC; clear hC; go_simp
 simp only [Pu]
 refine q_op (.int .i64 (L : Int)) (by rfl) ?_ ?_
 ·intro w' hC; clear hC; go_simp
 simp only [Pu]
 refine q_op (.slice (some p) (n - L) (c - L)) (by rfl) ?_ ?_
 ·intro w' hC; have hp := HP.out; have hlb := HLB.out; obtain ⟨l0, l1, l2, l3, l4⟩ := hlb; clear hC; go_simp
 simp only [Pu]
 refine q_op (.pointer (some p)) (by rfl) ?_ ?_
 ·intro w' hC; have ha2 := HA2.out w'; clear hC; go_simp
 simp only [Pu]
 refine q_op (.agg #[.int .u8 (y0.toNat : Nat), .int .u8 (y1.toNat : Nat), .int .u8 (y2.toNat : Nat), .int .u8 (y3.toNat : Nat)]) (by rfl) ?_ ?_
 ·intro w' hC; have hce := HCE.out w' (Grows.trans HG6.out hC); obtain ⟨c0, c1, c2, c3⟩ := hce; clear hC; go_simp
 simp only [Pu]
 refine q_op (.slice (some ad) n c) (by rfl) ?_ ?_
 ·intro w' hC; clear hC; go_simp
 simp only [Pu]
 refine q_op (.int .i64 (L : Int)) (by rfl) ?_ ?_
 ·intro w' hC; clear hC; go_simp
 simp only [Pu]
 refine q_op (.slice (some ad) L c) (by rfl) ?_ ?_
 ·intro w' hC; have hlb := HLB.out; obtain ⟨l0, l1, l2, l3, l4⟩ := hlb; clear hC; go_simp
 simp only [Pu]
 refine Ze0 91 #[.slice (some ad) L c] (.agg #[.int .u8 (d0.toNat : Nat), .int .u8 (d1.toNat : Nat), .int .u8 (d2.toNat : Nat), .int .u8 (d3.toNat : Nat)]) (by rfl) (by intro w' hC; clear hC; go_simp) ?_ ?_
 ·intro w' hC; refine HFT.out w' (Grows.trans HG6.out hC) |>.mono ?_; rintro e w2 ⟨he, hb2⟩; exact ⟨he, Grows.trans hC hb2⟩
 simp only [Pu]
 refine q_op (.bool false) (by rfl) ?_ ?_
 ·intro w' hC; have hN := HN2.out w'; clear hC; go_simp
 simp only [Pu]
 refine wpQuiet_nil ?_
 intro w7 hC
 have HC7 := hid hC
 clear hC
 obtain ⟨l0, l1, l2, l3, l4⟩ := HLB.out
 have l5 : (4 : Int) ≤ (L : Int) := by have := HL.out; omega
 have l6 : ¬ c = 4 := by have := HL.out; omega
 go_wp2_with (fail)
 have hp4 := Sl.part (Sl.grow (Grows.trans HG6.out HC7.out) HS.out) (k := 4) (m := L) (by omega) (by omega) l6
 rw [Addr.add_succ' ad 3] at hp4
 refine (Zk6 _ (L - 4) (c - 4) _ w7 hp4 (by omega) (by simp)).mono ?_
 rintro e w8 ⟨A8, c8, rfl, hs8, hb8⟩
 have HS8 := hid hs8
 have HB8 := hid hb8
 clear hs8 hb8 hp4
 go_wp2_with (fail)
 go_ret3
 have e4 : L - 4 = T := by have := HL.out; omega
 refine ⟨A8, c8, ?_, ?_, Grows.trans (Grows.trans HG6.out HC7.out) HB8.out⟩
 ·simp [e4]
 ·have h8 := Zj HS8.out (Grows.trans HG6.out HC7.out).size
  rw [e4] at h8
  rwa [show ((b0 :: b1 :: b2 :: b3 :: bs).drop 4).take T = ((b0 :: b1 :: b2 :: b3 :: bs).take L).drop 4 by rw [List.drop_take, e4]]
end Go.Proofs.YtlldcogkcjnejaaGreat
