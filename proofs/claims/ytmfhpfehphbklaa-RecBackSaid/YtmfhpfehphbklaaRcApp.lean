/-
  Appends onto a row of the call's own whose types are told apart: a named slice, a slice of another name, a string.
-/
import Derived.Test.YtmfhpfehphbklaaSteps
import Derived.Lib.AppendStr
namespace Go.Proofs.Ytmfhpfehphbklaa
open Go.RowKit

/-- A type of slices of bytes. -/
def IsSl (t : TypeId) : Prop := Try.prog.underlying t = some (.slice 5)
theorem append_like {t u : TypeId} (ht : IsSl t) (hu : IsSl u) (ty : TypeId) (A : Option Addr) (n c : Nat) (x : Value) (w : World) : (Builtin.append_ #[t, u] ty #[.slice A n c, x]).run Try.prog w = (Builtin.append_ #[23, 23] ty #[.slice A n c, x]).run Try.prog w := by
  have h1 : IsSl 23 := Try.underlying23
  unfold IsSl at *
  unfold Builtin.append_
  simp [run_underlying ht, run_underlying hu, run_underlying h1]

/-- Blocks of another type than bytes are as they were. -/
def Stay (w w' : World) : Prop := ∀ (g t : Nat) (cs : Array Value), t ≠ 5 → Whole w g t cs → Whole w' g t cs
theorem Stay.refl (w : World) : Stay w w := fun _ _ _ _ h => h
theorem Stay.trans {a b c : World} (h : Stay a b) (k : Stay b c) : Stay a c := fun g t cs ht hw => k g t cs ht (h g t cs ht hw)
theorem Stay.grow {w w' : World} (h : Grows w w') : Stay w w' := fun _ _ _ _ hw => h.whole hw
theorem Stay.grown {w w' : World} {base : Nat} {v : Value} {n : Nat} {xs : List Value} (ho : w.ownsRow base 5 1 v n xs) (hg : w.grownBy w' v.ownBlock) : Stay w w' := fun g t cs ht hw => by
  unfold Whole
  rw [hg.block g hw.lt (fun e => ?_)]
  · exact hw
  · rcases ho.2 with ⟨rfl, _⟩ | ⟨g', cap, cur, rfl, _, hh, _⟩
    · simp [Value.ownBlock] at e
    · obtain rfl : g = g' := by simpa [Value.ownBlock] using e
      unfold Whole at hw
      rw [hw] at hh
      injection hh with hh
      injection hh with _ h2 _
      exact ht h2

theorem run_append_sl {w : World} {ty base : Nat} {A0 : Option Addr} {n c0 : Nat} {xs : List UInt8} (hown : w.ownsRow base 5 1 (.slice A0 n c0) n (xs.map byteV))
    {A : Option Addr} {m c : Nat} {ys : List UInt8} (hr : Sl w A m c ys) (hk2 : n + m ≤ 140737488351232) (hbase : base ≤ w.heap.size) :
    ∃ A' c' w', (Builtin.append_ #[23, 23] ty #[.slice A0 n c0, .slice A m c]).run Try.prog w = .ok (.slice A' (n + m) c') w' ∧ w'.ownsRow base 5 1 (.slice A' (n + m) c') (n + m) ((xs ++ ys).map byteV) ∧ Below base w w' ∧ Stay w w' := by
  obtain ⟨i0, hi, hz0, hz1, hz2⟩ := info_parts infoU8
  obtain ⟨v', w', hrun, h2, h3, _⟩ := run_append_row (P := Try.prog) (ty := ty) Try.underlying23 hi hz0 hz1 hz2 rfl hown hr.bytes hr.bare (byteV_one ys) (by unfold maxLen; omega) (by omega) hbase
  obtain ⟨A', c', rfl, _⟩ := slice_of_owned h2
  rw [← List.map_append] at h2
  exact ⟨A', c', w', hrun, h2, (Below.refl _ w).grown h3 hbase (fun g hg => (hown.lt g hg).1), Stay.grown hown h3⟩
theorem str_cells (ks : List UInt8) : Lib.strCells ⟨ks.toArray⟩ = ks.map byteV := by
  simp only [Lib.strCells]
  rfl
theorem run_append_str {w : World} {ty base : Nat} {A0 : Option Addr} {n c0 : Nat} {xs : List UInt8} (hown : w.ownsRow base 5 1 (.slice A0 n c0) n (xs.map byteV))
    (ks : List UInt8) (hk2 : n + ks.length ≤ 140737488351232) (hbase : base ≤ w.heap.size) :
    ∃ A' c' w', (Builtin.append_ #[23, 9] ty #[.slice A0 n c0, .string ⟨ks.toArray⟩]).run Try.prog w = .ok (.slice A' (n + ks.length) c') w' ∧ w'.ownsRow base 5 1 (.slice A' (n + ks.length) c') (n + ks.length) ((xs ++ ks).map byteV) ∧ Below base w w' ∧ Stay w w' := by
  obtain ⟨i0, hi, hz0, hz1, hz2⟩ := info_parts infoU8
  have hs : (⟨ks.toArray⟩ : ByteArray).size = ks.length := by simp [ByteArray.size]
  obtain ⟨v', w', hrun, h2, h3, _⟩ := Lib.run_append_own_string (P := Try.prog) (w := w) base 23 9 ty 5 i0 Try.underlying23 Try.underlying9 hi hz0 hz1 hz2 _ n _ hown ⟨ks.toArray⟩ (by rw [hs]; unfold maxLen; omega) (by rw [hs]; omega) hbase
  rw [hs, str_cells, ← List.map_append] at h2
  obtain ⟨A', c', rfl, _⟩ := slice_of_owned h2
  exact ⟨A', c', w', hrun, h2, (Below.refl _ w).grown h3 hbase (fun g hg => (hown.lt g hg).1), Stay.grown hown h3⟩

theorem append_like_str {t : TypeId} (ht : IsSl t) (ty : TypeId) (A : Option Addr) (n c : Nat) (x : Value) (w : World) : (Builtin.append_ #[t, 9] ty #[.slice A n c, x]).run Try.prog w = (Builtin.append_ #[23, 9] ty #[.slice A n c, x]).run Try.prog w := by
  have h1 : IsSl 23 := Try.underlying23
  unfold IsSl at *
  unfold Builtin.append_
  simp [run_underlying ht, run_underlying h1]

theorem isSl_made : IsSl 82 := Try.underlying82
theorem isSl_bytes : IsSl 23 := Try.underlying23

section
variable {ops : Array Oper} {rest : List Oper} {o : Oper} {a : Act} {w : World} {Q : Exit → Act → World → Prop} {K : Act → World → Prop} {E : Prop}
theorem list_app {t u : TypeId} (ht : IsSl t) (hu : IsSl u) (hgd : o.guard = none) (s x : Operand) (ho : o.op = .call { callee := .builtin .append, args := #[s, x], argTypes := #[t, u] })
    {base : Nat} {A0 : Option Addr} {n c0 : Nat} {xs : List UInt8} (hs : a.eval s = .slice A0 n c0) (hown : w.ownsRow base 5 1 (.slice A0 n c0) n (xs.map byteV))
    {A : Option Addr} {m c : Nat} {ys : List UInt8} (hx : a.eval x = .slice A m c) (hr : Sl w A m c ys) (k : Nat) (hk : n + m = k) (hk2 : k ≤ 140737488351232) (hbase : base ≤ w.heap.size)
    (h : ∀ A' c' w', w'.ownsRow base 5 1 (.slice A' k c') k ((xs ++ ys).map byteV) → Below base w w' → Stay w w' → wpList Try.prog ops Q rest (a.put o.dst (.slice A' k c')) w') : wpList Try.prog ops Q (o :: rest) a w := by
  subst hk
  refine wpList_plain hgd fun K hK => ?_
  obtain ⟨A', c', w', hrun, h2, h3, h4⟩ := run_append_sl (ty := o.type) hown hr hk2 hbase
  rw [← append_like ht hu] at hrun
  unfold Oper.wp execOp
  simp only [ho, resolve, invoke, builtin, Sem.run_bind, Sem.run_pure, Result.andThen_ok, List.map_toArray, List.map_cons, List.map_nil, hs, hx, hrun]
  exact hK _ _ (h A' c' w' h2 h3 h4)
theorem list_app_str {t : TypeId} (ht : IsSl t) (hgd : o.guard = none) (s x : Operand) (ho : o.op = .call { callee := .builtin .append, args := #[s, x], argTypes := #[t, 9] })
    {base : Nat} {A0 : Option Addr} {n c0 : Nat} {xs : List UInt8} (hs : a.eval s = .slice A0 n c0) (hown : w.ownsRow base 5 1 (.slice A0 n c0) n (xs.map byteV))
    {ks : List UInt8} (hx : a.eval x = .string ⟨ks.toArray⟩) (k : Nat) (hk : n + ks.length = k) (hk2 : k ≤ 140737488351232) (hbase : base ≤ w.heap.size)
    (h : ∀ A' c' w', w'.ownsRow base 5 1 (.slice A' k c') k ((xs ++ ks).map byteV) → Below base w w' → Stay w w' → wpList Try.prog ops Q rest (a.put o.dst (.slice A' k c')) w') : wpList Try.prog ops Q (o :: rest) a w := by
  subst hk
  refine wpList_plain hgd fun K hK => ?_
  obtain ⟨A', c', w', hrun, h2, h3, h4⟩ := run_append_str (ty := o.type) hown ks hk2 hbase
  rw [← append_like_str ht] at hrun
  unfold Oper.wp execOp
  simp only [ho, resolve, invoke, builtin, Sem.run_bind, Sem.run_pure, Result.andThen_ok, List.map_toArray, List.map_cons, List.map_nil, hs, hx, hrun]
  exact hK _ _ (h A' c' w' h2 h3 h4)
/-- .. as a step of a region that draws its order. -/
theorem step_app {t u : TypeId} (ht : IsSl t) (hu : IsSl u) (hgd : o.guard = none) (s x : Operand) (ho : o.op = .call { callee := .builtin .append, args := #[s, x], argTypes := #[t, u] })
    {base : Nat} {A0 : Option Addr} {n c0 : Nat} {xs : List UInt8} (hs : a.eval s = .slice A0 n c0) (hown : w.ownsRow base 5 1 (.slice A0 n c0) n (xs.map byteV))
    {A : Option Addr} {m c : Nat} {ys : List UInt8} (hx : a.eval x = .slice A m c) (hr : Sl w A m c ys) (k : Nat) (hk : n + m = k) (hk2 : k ≤ 140737488351232) (hbase : base ≤ w.heap.size)
    (h : ∀ A' c' w', w'.ownsRow base 5 1 (.slice A' k c') k ((xs ++ ys).map byteV) → Below base w w' → Stay w w' → K (a.put o.dst (.slice A' k c')) w') : if Region.wanted o (yielded ops a.tmps) = true then Oper.wp Try.prog o a w K Q else E := by
  subst hk
  have hw : Region.wanted o (yielded ops a.tmps) = true := by simp [Region.wanted, hgd]
  rw [if_pos hw]
  obtain ⟨A', c', w', hrun, h2, h3, h4⟩ := run_append_sl (ty := o.type) hown hr hk2 hbase
  rw [← append_like ht hu] at hrun
  unfold Oper.wp execOp
  simp only [ho, resolve, invoke, builtin, Sem.run_bind, Sem.run_pure, Result.andThen_ok, List.map_toArray, List.map_cons, List.map_nil, hs, hx, hrun]
  exact h A' c' w' h2 h3 h4
theorem step_app_str {t : TypeId} (ht : IsSl t) (hgd : o.guard = none) (s x : Operand) (ho : o.op = .call { callee := .builtin .append, args := #[s, x], argTypes := #[t, 9] })
    {base : Nat} {A0 : Option Addr} {n c0 : Nat} {xs : List UInt8} (hs : a.eval s = .slice A0 n c0) (hown : w.ownsRow base 5 1 (.slice A0 n c0) n (xs.map byteV))
    {ks : List UInt8} (hx : a.eval x = .string ⟨ks.toArray⟩) (k : Nat) (hk : n + ks.length = k) (hk2 : k ≤ 140737488351232) (hbase : base ≤ w.heap.size)
    (h : ∀ A' c' w', w'.ownsRow base 5 1 (.slice A' k c') k ((xs ++ ks).map byteV) → Below base w w' → Stay w w' → K (a.put o.dst (.slice A' k c')) w') : if Region.wanted o (yielded ops a.tmps) = true then Oper.wp Try.prog o a w K Q else E := by
  subst hk
  have hw : Region.wanted o (yielded ops a.tmps) = true := by simp [Region.wanted, hgd]
  rw [if_pos hw]
  obtain ⟨A', c', w', hrun, h2, h3, h4⟩ := run_append_str (ty := o.type) hown ks hk2 hbase
  rw [← append_like_str ht] at hrun
  unfold Oper.wp execOp
  simp only [ho, resolve, invoke, builtin, Sem.run_bind, Sem.run_pure, Result.andThen_ok, List.map_toArray, List.map_cons, List.map_nil, hs, hx, hrun]
  exact h A' c' w' h2 h3 h4
end
end Go.Proofs.Ytmfhpfehphbklaa
