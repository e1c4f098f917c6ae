/-
  Texts that the statements' proofs lean on, one behind the other.
-/
import Derived.Test.YtdjlhdeejpndcaaRowsIn
import Derived.Test.YtdjlhdeejpndcaaRows
import Derived.Laws.AppendOwn
import Derived.KernelRfl
/-
  Slices of api.Item: three cells each, the last of which is a slice of bytes.
-/
namespace Go.Proofs.Ytdjlhdeejpndcaa
open Go.RowKit

/-- An item: where its frame begins, how long it is, its body. -/
abbrev It := Nat × Nat × List UInt8
abbrev Hd := Option Addr × Nat × Nat
def itV (t : It) (h : Hd) : List Value := [.int .i64 (t.1 : Nat), .int .i64 (t.2.1 : Nat), slV h]
def itCells : List It → List Hd → List Value
  | t :: ts, h :: hs => itV t h ++ itCells ts hs
  | _, _ => []
theorem itCells_length : ∀ (ts : List It) (hs : List Hd), ts.length = hs.length → (itCells ts hs).length = 3 * ts.length
  | [], [], _ => rfl
  | t :: ts, h :: hs, e => by
    have := itCells_length ts hs (by simpa using e)
    simp only [itCells, List.length_append, itV, List.length_cons, List.length_nil, this]
    omega
  | [], _ :: _, e => by cases e
  | _ :: _, [], e => by cases e
theorem itCells_append : ∀ (ts us : List It) (hs gs : List Hd), ts.length = hs.length → itCells (ts ++ us) (hs ++ gs) = itCells ts hs ++ itCells us gs
  | [], us, [], gs, _ => rfl
  | t :: ts, us, h :: hs, gs, e => by
    simp only [List.cons_append, itCells]
    rw [itCells_append ts us hs gs (by simpa using e), List.append_assoc]
  | [], _, _ :: _, _, e => by cases e
  | _ :: _, _, [], _, e => by cases e
theorem itCells_get : ∀ (ts : List It) (hs : List Hd) (i : Nat) (t : It) (h : Hd), ts[i]? = some t → hs[i]? = some h →
    (itCells ts hs)[3 * i]? = some (.int .i64 (t.1 : Nat)) ∧ (itCells ts hs)[3 * i + 1]? = some (.int .i64 (t.2.1 : Nat)) ∧ (itCells ts hs)[3 * i + 2]? = some (slV h)
  | t :: ts, h :: hs, 0, _, _, ht, hh => by
    simp only [List.getElem?_cons_zero, Option.some.injEq] at ht hh
    subst ht hh
    exact ⟨rfl, rfl, rfl⟩
  | t :: ts, h :: hs, i + 1, t', h', ht, hh => by
    obtain ⟨h1, h2, h3⟩ := itCells_get ts hs i t' h' (by simpa using ht) (by simpa using hh)
    have e : ∀ k, (itV t h ++ itCells ts hs)[3 + k]? = (itCells ts hs)[k]? := fun k => by
      rw [List.getElem?_append_right (by simp [itV])]
      simp [itV]
    refine ⟨?_, ?_, ?_⟩
    · rw [show 3 * (i + 1) = 3 + 3 * i by omega]; exact (e _).trans h1
    · rw [show 3 * (i + 1) + 1 = 3 + (3 * i + 1) by omega]; exact (e _).trans h2
    · rw [show 3 * (i + 1) + 2 = 3 + (3 * i + 2) by omega]; exact (e _).trans h3
  | [], _, i, _, _, ht, _ => by simp at ht
  | _ :: _, [], i, _, _, _, hh => by simp at hh

/-- A slice of items. -/
structure Items (w : World) (A : Option Addr) (n c : Nat) (ts : List It) : Prop where
  len : ts.length = n
  cap : n ≤ c
  bare : A = none → c = 0
  rows : ∃ hs : List Hd, hs.length = n ∧ Row w w.heap.size A (3 * n) (itCells ts hs) ∧ ∀ (i : Nat) (h : Hd) (t : It), hs[i]? = some h → ts[i]? = some t → Sl w h.1 h.2.1 h.2.2 t.2.2
theorem Items.grow {w w' : World} {A : Option Addr} {n c : Nat} {ts : List It} (hg : Grows w w') (h : Items w A n c ts) : Items w' A n c ts := by
  obtain ⟨h1, h2, h3, hs, hl, hr, hq⟩ := h
  exact ⟨h1, h2, h3, hs, hl, hg.row hr, fun i x l hx hl => (hq i x l hx hl).grow hg⟩
theorem Items.nil (w : World) : Items w none 0 0 [] := ⟨rfl, Nat.le_refl _, fun _ => rfl, [], rfl, Row.nil _ _ _, fun i h t hh => by simp at hh⟩

/-- Item i, as it stands in memory. -/
theorem Items.get {w : World} {A : Option Addr} {n c : Nat} {ts : List It} (h : Items w A n c ts) {i : Nat} (hi : i < n) :
    ∃ ad B m d, A = some ad ∧ w.cell? (ad.add (3 * i)) = some (.int .i64 ((ts.getD i (0, 0, [])).1 : Nat)) ∧ w.cell? (ad.add (3 * i + 1)) = some (.int .i64 ((ts.getD i (0, 0, [])).2.1 : Nat)) ∧
      w.cell? (ad.add (3 * i + 2)) = some (.slice B m d) ∧ Sl w B m d (ts.getD i (0, 0, [])).2.2 := by
  obtain ⟨h1, _, _, hs, hl, hr, hq⟩ := h
  have hx : hs[i]? = some hs[i] := List.getElem?_eq_getElem (by omega)
  have ht : ts[i]? = some (ts.getD i (0, 0, [])) := by
    rw [List.getElem?_eq_getElem (by omega)]
    simp [show i < ts.length by omega]
  obtain ⟨g1, g2, g3⟩ := itCells_get ts hs i _ _ ht hx
  obtain ⟨ad, hA, _, c1⟩ := hr.spot _ _ g1
  obtain ⟨ad2, hA2, _, c2⟩ := hr.spot _ _ g2
  obtain ⟨ad3, hA3, _, c3⟩ := hr.spot _ _ g3
  rw [hA] at hA2 hA3
  injection hA2 with hA2
  injection hA3 with hA3
  subst hA2 hA3
  exact ⟨ad, hs[i].1, hs[i].2.1, hs[i].2.2, hA, c1, c2, c3, hq i _ _ hx ht⟩
/-- .. in each world that has grown out of this one, at the addresses as a walk reckons them. -/
theorem Items.spot {w : World} {A : Option Addr} {n c : Nat} {ts : List It} (h : Items w A n c ts) {i : Nat} (hi : i < n) :
    ∃ ad B m d, A = some ad ∧ (∀ w', Grows w w' → w'.cell? (ad.add (i * 3)) = some (.int .i64 ((ts.getD i (0, 0, [])).1 : Nat))) ∧
      (∀ w', Grows w w' → w'.cell? { block := (ad.add (i * 3)).block, off := (ad.add (i * 3)).off + 1 } = some (.int .i64 ((ts.getD i (0, 0, [])).2.1 : Nat))) ∧
      (∀ w', Grows w w' → w'.cell? { block := (ad.add (i * 3)).block, off := (ad.add (i * 3)).off + 2 } = some (.slice B m d)) ∧ Sl w B m d (ts.getD i (0, 0, [])).2.2 := by
  obtain ⟨ad, B, m, d, hA, c1, c2, c3, hs⟩ := h.get hi
  have e1 : ad.add (3 * i) = ad.add (i * 3) := by rw [Nat.mul_comm]
  have e2 : ad.add (3 * i + 1) = { block := (ad.add (i * 3)).block, off := (ad.add (i * 3)).off + 1 } := by rw [Nat.mul_comm, ← add_twice, Addr.add_succ' (ad.add (i * 3)) 0]
  have e3 : ad.add (3 * i + 2) = { block := (ad.add (i * 3)).block, off := (ad.add (i * 3)).off + 2 } := by rw [Nat.mul_comm, ← add_twice, Addr.add_succ' (ad.add (i * 3)) 1]
  have up : ∀ (p : Addr) (v : Value), w.cell? p = some v → ∀ w', Grows w w' → w'.cell? p = some v := fun p v hp w' hg => (hg.cell (World.block_lt_of_cell? w _ hp)).trans hp
  rw [e1] at c1
  rw [e2] at c2
  rw [e3] at c3
  exact ⟨ad, B, m, d, hA, up _ _ c1, up _ _ c2, up _ _ c3, hs⟩
theorem Items.owned {w : World} {base : Nat} {e : TypeId} {A : Option Addr} {n c : Nat} {ts : List It} {hs : List Hd} (hl : ts.length = hs.length) (hn : ts.length = n) (h : w.ownsRow base e 3 (.slice A n c) n (itCells ts hs))
    (hq : ∀ (i : Nat) (h : Hd) (t : It), hs[i]? = some h → ts[i]? = some t → Sl w h.1 h.2.1 h.2.2 t.2.2) : Items w A n c ts := by
  refine ⟨hn, ?_, ?_, hs, by omega, ?_, hq⟩
  · rcases h.2 with ⟨h1, h2⟩ | ⟨g, cap, _, h1, _, _, h2, _⟩
    · omega
    · injection h1 with _ _ h1; omega
  · intro hA
    rcases h.2 with ⟨h1, h2⟩ | ⟨g, cap, _, h1, _⟩
    · injection h1
    · injection h1 with h1 _ _; rw [hA] at h1; cases h1
  · refine ⟨by rw [itCells_length ts hs hl, hn], fun k v hv => ?_⟩
    have hpos : 0 < n := by
      rcases Nat.eq_zero_or_pos n with h0 | h0
      · subst h0
        have : itCells ts hs = [] := List.eq_nil_of_length_eq_zero (by rw [itCells_length ts hs hl, hn])
        rw [this] at hv
        simp at hv
      · exact h0
    obtain ⟨g, cap, hval, _, hlt⟩ := h.form hpos
    injection hval with hA _ _
    subst hA
    exact ⟨_, rfl, hlt, h.cells (g := g) rfl k v hv⟩
end Go.Proofs.Ytdjlhdeejpndcaa

/-
  Rows of api.Item that are the call's own: where each item's body lies, one item more, as slices of items.
-/
namespace Go.Proofs.Ytdjlhdeejpndcaa
open Go.RowKit

theorem infoItem : (Try.prog.info? 56).map (fun i => (i.zero, i.size, i.bytes)) = some (some (.agg #[.int .i64 0, .int .i64 0, .slice none 0 0]), 3, 40) := by kernel_rfl

/-- Where the bodies of items lie: memory that is the call's own, from block base on. -/
def Bodies (w : World) (base : Nat) (hs : List Hd) (ts : List It) : Prop :=
  hs.length = ts.length ∧ ∀ (i : Nat) (h : Hd) (t : It), hs[i]? = some h → ts[i]? = some t → w.ownsRow base 5 1 (slV h) h.2.1 (t.2.2.map byteV)
theorem Bodies.nil (w : World) (base : Nat) : Bodies w base [] [] := ⟨rfl, fun i h t hh => by simp at hh⟩
theorem Bodies.step {w w' : World} {base : Nat} {hs : List Hd} {ts : List It} (hb : Bodies w base hs ts)
    (hk : ∀ (v : Value) (n : Nat) (xs : List Value), w.ownsRow base 5 1 v n xs → w'.ownsRow base 5 1 v n xs) : Bodies w' base hs ts :=
  ⟨hb.1, fun i h t hh ht => hk _ _ _ (hb.2 i h t hh ht)⟩
theorem Bodies.snoc {w : World} {base : Nat} {hs : List Hd} {ts : List It} (hb : Bodies w base hs ts) {h : Hd} {t : It} (ho : w.ownsRow base 5 1 (slV h) h.2.1 (t.2.2.map byteV)) : Bodies w base (hs ++ [h]) (ts ++ [t]) := by
  refine ⟨by rw [List.length_append, List.length_append, hb.1]; rfl, fun i x y hx hy => ?_⟩
  by_cases hi : i < hs.length
  · rw [List.getElem?_append_left hi] at hx
    rw [List.getElem?_append_left (by rw [← hb.1]; exact hi)] at hy
    exact hb.2 i x y hx hy
  · rw [List.getElem?_append_right (by omega)] at hx
    rw [List.getElem?_append_right (by rw [← hb.1]; omega)] at hy
    have hi0 : i - hs.length = 0 := by
      rcases Nat.eq_zero_or_pos (i - hs.length) with h0 | h0
      · exact h0
      · rw [List.getElem?_eq_none (by simp; omega)] at hx; cases hx
    rw [← hb.1] at hy
    rw [hi0] at hx hy
    simp only [List.getElem?_cons_zero, Option.some.injEq] at hx hy
    subst hx hy
    exact ho
theorem Bodies.from {w : World} {base base' : Nat} {hs : List Hd} {ts : List It} (hb : Bodies w base hs ts) (h : base' ≤ base) : Bodies w base' hs ts :=
  ⟨hb.1, fun i x t hx ht => owned_from (hb.2 i x t hx ht) h⟩
theorem Sl.owned' {w : World} {base : Nat} {h : Hd} {bs : List UInt8} (ho : w.ownsRow base 5 1 (slV h) h.2.1 (bs.map byteV)) : Sl w h.1 h.2.1 h.2.2 bs := Sl.owned ho
/-- Items that are the call's own, as any slice of items. -/
theorem items_own {w : World} {base base' : Nat} {A : Option Addr} {n c : Nat} {ts : List It} {hs : List Hd} (hn : ts.length = n) (h : w.ownsRow base 56 3 (.slice A n c) n (itCells ts hs)) (hb : Bodies w base' hs ts) : Items w A n c ts :=
  Items.owned hb.1.symm hn h fun i x t hx ht => Sl.owned' (hb.2 i x t hx ht)

/-- What a row of its own is, as a slice. -/
theorem slice_own {w : World} {base : Nat} {e : TypeId} {size : Nat} {v : Value} {n : Nat} {xs : List Value} (h : w.ownsRow base e size v n xs) : ∃ A c, v = .slice A n c := by
  rcases h.2 with ⟨rfl, rfl⟩ | ⟨g, cap, _, rfl, _⟩
  · exact ⟨none, 0, rfl⟩
  · exact ⟨_, cap, rfl⟩
/-- Two rows of unlike types lie in unlike blocks. -/
theorem own_apart {w : World} {b1 b2 : Nat} {e1 e2 : TypeId} {s1 s2 : Nat} {v1 v2 : Value} {n1 n2 : Nat} {xs1 xs2 : List Value} (h1 : w.ownsRow b1 e1 s1 v1 n1 xs1) (h2 : w.ownsRow b2 e2 s2 v2 n2 xs2) (hne : e1 ≠ e2) : v1.ownBlock = none ∨ v1.ownBlock ≠ v2.ownBlock := by
  rcases h1.2 with ⟨rfl, _⟩ | ⟨g, cap, cur, rfl, _, hg, _⟩
  · exact .inl rfl
  refine .inr fun e => ?_
  rcases h2.2 with ⟨rfl, _⟩ | ⟨g', cap', cur', rfl, _, hg', _⟩
  · simp [Value.ownBlock] at e
  · obtain rfl : g = g' := by simpa [Value.ownBlock] using e
    rw [hg] at hg'
    injection hg' with hg'
    injection hg' with _ ht _
    exact hne ht
theorem itCells_snoc (ts : List It) (hs : List Hd) (t : It) (h : Hd) (hl : ts.length = hs.length) : itCells (ts ++ [t]) (hs ++ [h]) = itCells ts hs ++ itV t h := by
  rw [itCells_append _ _ _ _ hl]
  simp [itCells]
theorem itV_one (t : It) (h : Hd) : ∀ u ∈ itV t h, u.oneCell' = true := by
  intro u hu
  simp only [itV, List.mem_cons, List.not_mem_nil, or_false] at hu
  rcases hu with rfl | rfl | rfl <;> rfl
/-- A literal's one item, in a block of its own. -/
theorem itV_at {w : World} {g ty : Nat} {t : It} {h : Hd} (hw : Whole w g ty #[.int .i64 (t.1 : Nat), .int .i64 (t.2.1 : Nat), slV h]) : ∀ j u, (itV t h)[j]? = some u → w.cell? ((⟨g, 0, none⟩ : Addr).add j) = some u := by
  intro j u hj
  rw [show (⟨g, 0, none⟩ : Addr).add j = ⟨g, j, none⟩ by unfold Addr.add; split <;> simp_all, hw.cell j]
  simpa [itV] using hj

section
variable {ops : Array Oper} {rest : List Oper} {o : Oper} {a : Act} {w : World} {Q : Exit → Act → World → Prop}
/-- 'append(s, x)' of one item, s the call's own. -/
theorem list_append_item (hgd : o.guard = none) (s x : Operand) (ho : o.op = .call { callee := .builtin .append, args := #[s, x], argTypes := #[50, 50] })
    {base : Nat} {LA : Option Addr} {n lc : Nat} {ts : List It} {hh : List Hd} (hs : a.eval s = .slice LA n lc) (hown : w.ownsRow base 56 3 (.slice LA n lc) n (itCells ts hh)) (hl : ts.length = hh.length)
    {g ty : Nat} (t : It) (h : Hd) (hx : a.eval x = .slice (some ⟨g, 0, none⟩) 1 1) (hw : Whole w g ty #[.int .i64 (t.1 : Nat), .int .i64 (t.2.1 : Nat), slV h]) (hn : n ≤ 1000000) (hbase : base ≤ w.heap.size)
    (hk : ∀ A' c' w', w'.ownsRow base 56 3 (.slice A' (n + 1) c') (n + 1) (itCells (ts ++ [t]) (hh ++ [h])) → Below base w w' →
      (∀ (b' size : Nat) (v : Value) (m : Nat) (ys : List Value), w.ownsRow b' 5 size v m ys → w'.ownsRow b' 5 size v m ys) → wpList Try.prog ops Q rest (a.put o.dst (.slice A' (n + 1) c')) w') : wpList Try.prog ops Q (o :: rest) a w := by
  obtain ⟨i0, hi, hz0, hz1, hz2⟩ := info_parts infoItem
  refine wpList_append_own w hgd s x 50 ho base 56 i0 _ 3 40 Try.underlying50 hi hz0 hz1 hz2 rfl (by decide) (.slice LA n lc) n (itCells ts hh) hs hown ⟨g, 0, none⟩ 1 1 (itV t h) hx rfl (itV_at hw) (itV_one t h) (by unfold maxLen; omega) (by omega) hbase fun v' w' h1 h2 _ => ?_
  obtain ⟨A', c', rfl⟩ := slice_own h1
  rw [← itCells_snoc _ _ _ _ hl] at h1
  exact hk A' c' w' h1 ((Below.refl _ w).grown h2 hbase fun k hk => (hown.lt k hk).1) fun b' size v m ys hy => hy.kept h2 (own_apart hy hown (by decide))
/-- 'append(s, x...)' of bytes, s the call's own; rows of another type stay. -/
theorem list_append_sl2 (hgd : o.guard = none) (s x : Operand) (ho : o.op = .call { callee := .builtin .append, args := #[s, x], argTypes := #[23, 23] })
    {base : Nat} {A0 : Option Addr} {n c0 : Nat} {xs : List UInt8} (hs : a.eval s = .slice A0 n c0) (hown : w.ownsRow base 5 1 (.slice A0 n c0) n (xs.map byteV))
    {A : Option Addr} {m c : Nat} {ys : List UInt8} (hx : a.eval x = .slice A m c) (hr : Sl w A m c ys) (k : Nat) (hk : n + m = k) (zs : List UInt8) (hzs : xs ++ ys = zs) (hk2 : k ≤ 140737488351232) (hbase : base ≤ w.heap.size)
    (h : ∀ A' c' w', w'.ownsRow base 5 1 (.slice A' k c') k (zs.map byteV) → Below base w w' →
      (∀ (b' size : Nat) (v : Value) (m : Nat) (ys : List Value), w.ownsRow b' 56 size v m ys → w'.ownsRow b' 56 size v m ys) → wpList Try.prog ops Q rest (a.put o.dst (.slice A' k c')) w') : wpList Try.prog ops Q (o :: rest) a w := by
  obtain ⟨i0, hi, hz0, hz1, hz2⟩ := info_parts infoU8
  subst hzs
  refine list_append_row hgd s x _ ho Try.underlying23 hi hz0 hz1 hz2 rfl hs hown hx hr.bytes hr.bare (byteV_one ys) k hk ((xs ++ ys).map byteV) (List.map_append).symm (by unfold maxLen; omega) (by omega) hbase (fun A' c' w' h1 _ h3 _ => ?_)
  exact h A' c' w' h1 ((Below.refl _ w).grown h3 hbase (fun g hg => (hown.lt g hg).1)) fun b' size v m ys hy => hy.kept h3 (own_apart hy hown (by decide))
end

end Go.Proofs.Ytdjlhdeejpndcaa
