/-
  Items of which the first ones stand further on; append of slices of items.
-/
import Derived.Test.YtchndjebgpibjaaLawBits
import Derived.Test.YtchndjebgpibjaaGreat
import Derived.IntWalk
namespace Go.Proofs.Ytchndjebgpibjaa
open Go.RowKit

def moveI (d : Nat) (t : It) : It := (t.1 + d, t.2)
/-- The first k of these, further on by d. -/
def shiftK (d k : Nat) (ts : List It) : List It := (ts.take k).map (moveI d) ++ ts.drop k
theorem shiftK_zero (d : Nat) (ts : List It) : shiftK d 0 ts = ts := rfl
theorem shiftK_all (d : Nat) (ts : List It) : shiftK d ts.length ts = ts.map (moveI d) := by
  unfold shiftK
  rw [List.take_length, List.drop_length, List.append_nil]
theorem shiftK_length (d k : Nat) (ts : List It) (h : k ≤ ts.length) : (shiftK d k ts).length = ts.length := by
  unfold shiftK
  rw [List.length_append, List.length_map, List.length_take, List.length_drop]
  omega
theorem shiftK_at (d k : Nat) (ts : List It) (t : It) (h : ts[k]? = some t) : (shiftK d k ts)[k]? = some t := by
  have hl : k < ts.length := (List.getElem?_eq_some_iff.1 h).1
  unfold shiftK
  rw [List.getElem?_append_right (by rw [List.length_map, List.length_take]; omega), List.length_map, List.length_take, List.getElem?_drop, show k + (k - min k ts.length) = k by omega]
  exact h
theorem shiftK_next (d k : Nat) (ts : List It) (t : It) (h : ts[k]? = some t) : (shiftK d k ts).set k (moveI d t) = shiftK d (k + 1) ts := by
  have hl : k < ts.length := (List.getElem?_eq_some_iff.1 h).1
  have hd : ts.drop k = t :: ts.drop (k + 1) := by rw [List.drop_eq_getElem_cons hl, (List.getElem?_eq_some_iff.1 h).2]
  unfold shiftK
  rw [List.set_append_right _ _ (by rw [List.length_map, List.length_take]; omega), List.length_map, List.length_take, show k - min k ts.length = 0 by omega, hd, List.set_cons_zero, List.take_succ_eq_append_getElem hl, List.map_append, List.append_assoc, (List.getElem?_eq_some_iff.1 h).2]
  rfl
theorem itCells_set : ∀ (ts : List It) (hs : List Hd) (i : Nat) (t : It) (a : Nat), ts.length = hs.length → ts[i]? = some t → (itCells ts hs).set (i * 3) (.int .i64 (a : Nat)) = itCells (ts.set i (a, t.2)) hs
  | t :: ts, h :: hs, 0, u, a, _, ht => by
    simp only [List.getElem?_cons_zero, Option.some.injEq] at ht
    subst ht
    rfl
  | t :: ts, h :: hs, i + 1, u, a, hl, ht => by
    rw [List.set_cons_succ]
    simp only [itCells]
    rw [← itCells_set ts hs i u a (by simpa using hl) (by simpa using ht), List.set_append_right _ _ (by simp [itV]; omega)]
    congr 1
    simp only [itV, List.length_cons, List.length_nil]
    congr 1
    omega
  | [], _, _, _, _, _, ht => by simp at ht
  | _ :: _, [], _, _, _, hl, _ => by cases hl
theorem itsL_move : ∀ (l : List (List UInt8)) (a d : Nat), (itsL l a).map (moveI d) = itsL l (a + d)
  | [], _, _ => rfl
  | b :: l, a, d => by
    rw [itsL, itsL]
    by_cases h : Good b
    · rw [if_pos h, if_pos h, List.map_cons, itsL_move l, show a + (b.length + 8) + d = a + d + (b.length + 8) by omega]
      rfl
    · rw [if_neg h, if_neg h, itsL_move l]
theorem grownBy_put (w : World) (p : Addr) (u : Value) : w.grownBy (w.setCell p u) (some p.block) :=
  ⟨rfl, rfl, rfl, by simp [World.setCell], fun k _ hk => Below.heap_setCell w p u k fun e => hk (by rw [e])⟩
theorem itV_all : ∀ (ts : List It) (hs : List Hd), ∀ u ∈ itCells ts hs, u.oneCell' = true
  | [], [], _, h => by cases h
  | [], _ :: _, _, h => by cases h
  | _ :: _, [], _, h => by cases h
  | t :: ts, h :: hs, u, hu => by
    simp only [itCells, List.mem_append] at hu
    rcases hu with hu | hu
    · exact itV_one t h u hu
    · exact itV_all ts hs u hu

/-- The cells of items that are the call's own. -/
theorem row_own {w : World} {base : Nat} {e : TypeId} {A : Option Addr} {n c : Nat} {ts : List It} {hs : List Hd} (hl : ts.length = hs.length) (hn : ts.length = n) (h : w.ownsRow base e 3 (.slice A n c) n (itCells ts hs)) : Row w w.heap.size A (3 * n) (itCells ts hs) ∧ n ≤ c ∧ (A = none → c = 0) := by
  refine ⟨⟨by rw [itCells_length ts hs hl, hn], fun k v hv => ?_⟩, ?_, ?_⟩
  · have hpos : 0 < n := by
      rcases Nat.eq_zero_or_pos n with h0 | h0
      · subst h0
        have : itCells ts hs = [] := List.eq_nil_of_length_eq_zero (by rw [itCells_length ts hs hl, hn])
        rw [this] at hv
        simp at hv
      · exact h0
    obtain ⟨g, cap, hval, _, hlt⟩ := h.form hpos
    injection hval with hA _ _
    subst hA
    exact ⟨_, rfl, hlt, h.cells (g := g) rfl k v hv⟩
  · rcases h.2 with ⟨h1, h2⟩ | ⟨g, cap, _, h1, _, _, h2, _⟩
    · omega
    · injection h1 with _ _ h1; omega
  · intro hA
    rcases h.2 with ⟨h1, h2⟩ | ⟨g, cap, _, h1, _⟩
    · injection h1
    · injection h1 with h1 _ _; rw [hA] at h1; cases h1
theorem Bodies.lies {w : World} {base : Nat} {hs : List Hd} {ts : List It} (h : Bodies w base hs ts) : Lies w hs ts := ⟨h.1, fun i x t hx ht => Sl.owned' (h.2 i x t hx ht)⟩
theorem Lies.moved {w : World} {hs : List Hd} {ts : List It} (h : Lies w hs ts) (d : Nat) : Lies w hs (ts.map (moveI d)) := ⟨by rw [List.length_map]; exact h.1, fun i x t hx ht => by
  rw [List.getElem?_map] at ht
  rcases h' : ts[i]? with _ | u
  · rw [h'] at ht; cases ht
  · rw [h'] at ht
    injection ht with ht
    subst ht
    exact h.2 i x u hx h'⟩
theorem Lies.append {w : World} {hs gs : List Hd} {ts us : List It} (h : Lies w hs ts) (h' : Lies w gs us) : Lies w (hs ++ gs) (ts ++ us) := by
  refine ⟨by rw [List.length_append, List.length_append, h.1, h'.1], fun i x t hx ht => ?_⟩
  by_cases hi : i < hs.length
  · rw [List.getElem?_append_left hi] at hx
    rw [List.getElem?_append_left (by rw [← h.1]; exact hi)] at ht
    exact h.2 i x t hx ht
  · rw [List.getElem?_append_right (by omega)] at hx
    rw [List.getElem?_append_right (by rw [← h.1]; omega), ← h.1] at ht
    exact h'.2 _ x t hx ht

section
variable {ops : Array Oper} {rest : List Oper} {o : Oper} {a : Act} {w : World} {Q : Exit → Act → World → Prop}
/-- 'append(s, x...)' of items, s the call's own, wherever it stands. -/
theorem run_append_items {ty : TypeId} {base : Nat} {v : Value} {n : Nat} {xs : List Value} (hown : w.ownsRow base 29 3 v n xs)
    {A2 : Option Addr} {m c2 B : Nat} {us : List It} {gs : List Hd} (hr : Row w B A2 (3 * m) (itCells us gs)) (hbare : A2 = none → c2 = 0) (hc : m ≤ c2) (hn : n + m ≤ 1000000) (hbase : base ≤ w.heap.size) :
    ∃ A' c' w', (Builtin.append_ #[24, 24] ty #[v, .slice A2 m c2]).run Try.prog w = .ok (.slice A' (n + m) c') w' ∧ w'.ownsRow base 29 3 (.slice A' (n + m) c') (n + m) (xs ++ itCells us gs) ∧ w.grownBy w' v.ownBlock := by
  obtain ⟨i0, hi, hz0, hz1, hz2⟩ := info_parts infoItem
  have hlen := hr.len
  rcases A2 with _ | ad
  · have hc2 := hbare rfl
    subst hc2
    obtain rfl : m = 0 := by omega
    have hnil : itCells us gs = [] := List.eq_nil_of_length_eq_zero (by omega)
    obtain ⟨A', c', rfl⟩ := slice_own hown
    rw [hnil, List.append_nil, Nat.add_zero]
    exact ⟨A', c', w, run_append_owned_none (P := Try.prog) (w := w) base 24 ty 29 i0 3 Try.underlying24 hi _ n xs hown, hown, World.grownBy.refl w _⟩
  · obtain ⟨v', w', hrun, h2, h3, _⟩ := run_append_own (P := Try.prog) (w := w) base 24 ty 29 i0 _ 3 40 Try.underlying24 hi hz0 hz1 hz2 rfl (by omega) v n xs hown ad m c2 (itCells us gs) (by omega)
      (fun j u hu => by obtain ⟨ad', he, _, hc⟩ := hr.spot j u hu; injection he with he; subst he; exact hc) (itV_all us gs) (by unfold maxLen; omega) (by omega) hbase
    obtain ⟨A', c', rfl⟩ := slice_own h2
    exact ⟨A', c', w', hrun, h2, h3⟩
theorem list_append_items (hw : Region.wanted o (yielded ops a.tmps) = true) (s x : Operand) (ho : o.op = .call { callee := .builtin .append, args := #[s, x], argTypes := #[24, 24] })
    {base : Nat} {v : Value} {n : Nat} {xs : List Value} (hs : a.eval s = v) (hown : w.ownsRow base 29 3 v n xs)
    {A2 : Option Addr} {m c2 B : Nat} {us : List It} {gs : List Hd} (hx : a.eval x = .slice A2 m c2) (hr : Row w B A2 (3 * m) (itCells us gs)) (hbare : A2 = none → c2 = 0) (hc : m ≤ c2) (hn : n + m ≤ 1000000) (hbase : base ≤ w.heap.size)
    (hk : ∀ A' c' w', w'.ownsRow base 29 3 (.slice A' (n + m) c') (n + m) (xs ++ itCells us gs) → Below base w w' →
      (∀ (b' size : Nat) (v : Value) (m : Nat) (ys : List Value), w.ownsRow b' 5 size v m ys → w'.ownsRow b' 5 size v m ys) → w.grownBy w' v.ownBlock → wpList Try.prog ops Q rest (a.put o.dst (.slice A' (n + m) c')) w') : wpList Try.prog ops Q (o :: rest) a w := by
  obtain ⟨A', c', w', hrun, h2, h3⟩ := run_append_items (ty := o.type) hown hr hbare hc hn hbase
  unfold wpList
  rw [if_pos hw]
  refine .inl ?_
  unfold Oper.wp execOp
  simp only [ho, resolve, invoke, builtin, Sem.run_bind, Sem.run_pure, Result.andThen_ok, List.map_toArray, List.map_cons, List.map_nil, hs, hx, hrun]
  exact hk A' c' w' h2 ((Below.refl _ w).grown h3 hbase fun k hk => (hown.lt k hk).1) (fun b' size v m ys hy => hy.kept h3 (own_apart hy hown (by decide))) h3
end
end Go.Proofs.Ytchndjebgpibjaa
