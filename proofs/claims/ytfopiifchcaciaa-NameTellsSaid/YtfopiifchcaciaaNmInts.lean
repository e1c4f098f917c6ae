/-
  Rows of numbers and of strings that a call has made: append, sort, compact; what came in as such.
-/
import Derived.Test.YtfopiifchcaciaaNmSets
import Derived.Test.YtfopiifchcaciaaSteps
import Derived.Test.YtfopiifchcaciaaShelf
import Derived.Sort.OwnSortedInts
import Derived.Lib.OwnBridge
import Derived.KernelRfl
namespace Go.Proofs.Ytfopiifchcaciaa
open Go.RowKit Go.Sort

def intV (x : Int) : Value := .int .i64 x
def strV (bs : List UInt8) : Value := .string ⟨bs.toArray⟩
theorem infoInt : (Try.prog.info? 3).map (fun i => (i.zero, i.size, i.bytes)) = some (some (.int .i64 0), 1, 8) := by kernel_rfl
theorem infoStr : (Try.prog.info? 9).map (fun i => (i.zero, i.size, i.bytes)) = some (some (.string ⟨#[]⟩), 1, 16) := by kernel_rfl
theorem intV_one (xs : List Int) : ∀ u ∈ xs.map intV, u.oneCell' = true := by
  intro u hu
  obtain ⟨b, _, rfl⟩ := List.mem_map.1 hu
  rfl
theorem strV_one (xs : List (List UInt8)) : ∀ u ∈ xs.map strV, u.oneCell' = true := by
  intro u hu
  obtain ⟨b, _, rfl⟩ := List.mem_map.1 hu
  rfl
theorem Whole.row {w : World} {g t : Nat} {cs : Array Value} (h : Whole w g t cs) (xs : List Value) (n : Nat) (he : cs = xs.toArray) (hn : xs.length = n) : Row w w.heap.size (some ⟨g, 0, none⟩) n xs :=
  ⟨hn, fun k v hv => ⟨⟨g, 0, none⟩, rfl, h.lt, by
    rw [show (⟨g, 0, none⟩ : Addr).add k = ⟨g, k, none⟩ by unfold Addr.add; split <;> simp_all, h.cell k, he]
    simpa using hv⟩⟩

section
variable {ops : Array Oper} {rest : List Oper} {o : Oper} {a : Act} {w : World} {Q : Exit → Act → World → Prop} {K : Act → World → Prop} {E : Prop}
theorem run_append_ints {w : World} {ty base : Nat} {A0 : Option Addr} {n c0 : Nat} {xs : List Int} (hown : w.ownsRow base 3 1 (.slice A0 n c0) n (xs.map intV))
    {A : Option Addr} {m c B : Nat} {ys : List Int} (hr : Row w B A m (ys.map intV)) (hbare : A = none → c = 0) (hk2 : n + m ≤ 1000000000000) (hbase : base ≤ w.heap.size) :
    ∃ A' c' w', (Builtin.append_ #[28, 28] ty #[.slice A0 n c0, .slice A m c]).run Try.prog w = .ok (.slice A' (n + m) c') w' ∧ w'.ownsRow base 3 1 (.slice A' (n + m) c') (n + m) ((xs ++ ys).map intV) ∧ w.grownBy w' (Value.slice A0 n c0).ownBlock ∧ Below base w w' ∧ ((Value.slice A' (n + m) c').ownBlock = (Value.slice A0 n c0).ownBlock ∨ (Value.slice A' (n + m) c').ownBlock = some w.heap.size) := by
  obtain ⟨i0, hi, hz0, hz1, hz2⟩ := info_parts infoInt
  obtain ⟨v', w', hrun, h2, h3, h4⟩ := run_append_row (P := Try.prog) (ty := ty) Try.underlying28 hi hz0 hz1 hz2 rfl hown hr hbare (intV_one ys) (by unfold maxLen; omega) (by omega) hbase
  obtain ⟨A', c', rfl, _⟩ := slice_of_owned h2
  rw [← List.map_append] at h2
  exact ⟨A', c', w', hrun, h2, h3, (Below.refl _ w).grown h3 hbase (fun g hg => (hown.lt g hg).1), h4⟩
theorem run_append_strs {w : World} {ty base : Nat} {A0 : Option Addr} {n c0 : Nat} {xs : List (List UInt8)} (hown : w.ownsRow base 9 1 (.slice A0 n c0) n (xs.map strV))
    {A : Option Addr} {m c B : Nat} {ys : List (List UInt8)} (hr : Row w B A m (ys.map strV)) (hbare : A = none → c = 0) (hk2 : n + m ≤ 1000000000000) (hbase : base ≤ w.heap.size) :
    ∃ A' c' w', (Builtin.append_ #[22, 22] ty #[.slice A0 n c0, .slice A m c]).run Try.prog w = .ok (.slice A' (n + m) c') w' ∧ w'.ownsRow base 9 1 (.slice A' (n + m) c') (n + m) ((xs ++ ys).map strV) ∧ w.grownBy w' (Value.slice A0 n c0).ownBlock ∧ Below base w w' ∧ ((Value.slice A' (n + m) c').ownBlock = (Value.slice A0 n c0).ownBlock ∨ (Value.slice A' (n + m) c').ownBlock = some w.heap.size) := by
  obtain ⟨i0, hi, hz0, hz1, hz2⟩ := info_parts infoStr
  obtain ⟨v', w', hrun, h2, h3, h4⟩ := run_append_row (P := Try.prog) (ty := ty) Try.underlying22 hi hz0 hz1 hz2 rfl hown hr hbare (strV_one ys) (by unfold maxLen; omega) (by omega) hbase
  obtain ⟨A', c', rfl, _⟩ := slice_of_owned h2
  rw [← List.map_append] at h2
  exact ⟨A', c', w', hrun, h2, h3, (Below.refl _ w).grown h3 hbase (fun g hg => (hown.lt g hg).1), h4⟩

theorem list_app_ints (hgd : o.guard = none) (s x : Operand) (ho : o.op = .call { callee := .builtin .append, args := #[s, x], argTypes := #[28, 28] })
    {base : Nat} {A0 : Option Addr} {n c0 : Nat} {xs : List Int} (hs : a.eval s = .slice A0 n c0) (hown : w.ownsRow base 3 1 (.slice A0 n c0) n (xs.map intV))
    {A : Option Addr} {m c B : Nat} {ys : List Int} (hx : a.eval x = .slice A m c) (hr : Row w B A m (ys.map intV)) (hbare : A = none → c = 0) (k : Nat) (hk : n + m = k) (hk2 : k ≤ 1000000000000) (hbase : base ≤ w.heap.size)
    (h : ∀ A' c' w', w'.ownsRow base 3 1 (.slice A' k c') k ((xs ++ ys).map intV) → w.grownBy w' (Value.slice A0 n c0).ownBlock → Below base w w' → wpList Try.prog ops Q rest (a.put o.dst (.slice A' k c')) w') : wpList Try.prog ops Q (o :: rest) a w := by
  subst hk
  refine wpList_plain hgd fun K hK => ?_
  obtain ⟨A', c', w', hrun, h2, h3, h4, _⟩ := run_append_ints (ty := o.type) hown hr hbare hk2 hbase
  unfold Oper.wp execOp
  simp only [ho, resolve, invoke, builtin, Sem.run_bind, Sem.run_pure, Result.andThen_ok, List.map_toArray, List.map_cons, List.map_nil, hs, hx, hrun]
  exact hK _ _ (h A' c' w' h2 h3 h4)
theorem list_app_strs (hgd : o.guard = none) (s x : Operand) (ho : o.op = .call { callee := .builtin .append, args := #[s, x], argTypes := #[22, 22] })
    {base : Nat} {A0 : Option Addr} {n c0 : Nat} {xs : List (List UInt8)} (hs : a.eval s = .slice A0 n c0) (hown : w.ownsRow base 9 1 (.slice A0 n c0) n (xs.map strV))
    {A : Option Addr} {m c B : Nat} {ys : List (List UInt8)} (hx : a.eval x = .slice A m c) (hr : Row w B A m (ys.map strV)) (hbare : A = none → c = 0) (k : Nat) (hk : n + m = k) (hk2 : k ≤ 1000000000000) (hbase : base ≤ w.heap.size)
    (h : ∀ A' c' w', w'.ownsRow base 9 1 (.slice A' k c') k ((xs ++ ys).map strV) → w.grownBy w' (Value.slice A0 n c0).ownBlock → Below base w w' → ((Value.slice A' k c').ownBlock = (Value.slice A0 n c0).ownBlock ∨ (Value.slice A' k c').ownBlock = some w.heap.size) → wpList Try.prog ops Q rest (a.put o.dst (.slice A' k c')) w') : wpList Try.prog ops Q (o :: rest) a w := by
  subst hk
  refine wpList_plain hgd fun K hK => ?_
  obtain ⟨A', c', w', hrun, h2, h3, h4, h5⟩ := run_append_strs (ty := o.type) hown hr hbare hk2 hbase
  unfold Oper.wp execOp
  simp only [ho, resolve, invoke, builtin, Sem.run_bind, Sem.run_pure, Result.andThen_ok, List.map_toArray, List.map_cons, List.map_nil, hs, hx, hrun]
  exact hK _ _ (h A' c' w' h2 h3 h4 h5)
end

/-- slices.Sort of a row of the call's own. -/
theorem sort_own (base : Nat) (A : Option Addr) (n c : Nat) (xs : List Int) (w : World) (ho : w.ownsRow base 3 1 (.slice A n c) n (xs.map intV)) (hb : base ≤ w.heap.size) (hn : n ≤ 1000000000000) :
    Calls Try.prog 28 #[.slice A n c] w fun e w' => e = .returned (.tuple #[]) ∧ w'.ownsRow base 3 1 (.slice A n c) n ((xs.mergeSort fun x y => decide (x ≤ y)).map intV) ∧ Below base w w' := by
  have hl : xs.length = n := by simpa using ho.1
  rcases ho.2 with ⟨h1, h2⟩ | ⟨g, cap, cur, h1, h2, h3, h4, h5, h6, h7⟩
  · injection h1 with q1 q2 q3
    subst q1 q2 q3
    refine (slices_Sort_int_none none 0 w).mono ?_
    rintro e w' ⟨rfl, rfl⟩
    have hx : xs = [] := List.eq_nil_of_length_eq_zero hl
    subst hx
    exact ⟨rfl, by simpa using ho, Below.refl _ _⟩
  · injection h1 with q1 q2 q3
    subst q1 q3
    have hH : Holds (Value.int .i64) w g 0 xs.toArray := holds_of_blockI h3 (by rw [Nat.mul_one] at h7; rw [hl]; exact h7)
    subst hl
    refine (slices_Sort_int g 0 c xs w hH (Array.getElem?_eq_some_iff.1 h3).1 (by omega)).mono ?_
    rintro e w' ⟨rfl, q, os, rfl⟩
    have hlm : (xs.mergeSort fun x y => decide (x ≤ y)).length = xs.length := List.length_mergeSort _
    exact ⟨rfl, ownsRow_sortedI hlm h2 h3 h4 h5 h6, (Below.refl _ w).grown (grownBy_sortedI _) hb (fun k hk => by injection hk with hk; omega)⟩

/-- slices.Compact of a row of the call's own. -/
theorem compact_own (base : Nat) (A : Option Addr) (n c : Nat) (xs : List Int) (w : World) (ho : w.ownsRow base 3 1 (.slice A n c) n (xs.map intV)) (hb : base ≤ w.heap.size) (hn : n ≤ 1000000000000) :
    Calls Try.prog 29 #[.slice A n c] w fun e w' => e = .returned (.slice A (Lib.compact xs).length c) ∧ w'.ownsRow base 3 1 (.slice A (Lib.compact xs).length c) (Lib.compact xs).length ((Lib.compact xs).map intV) ∧ Below base w w' := by
  have hl : xs.length = n := by simpa using ho.1
  have ho' := ho
  rcases ho.2 with ⟨h1, h2⟩ | ⟨g, cap, cur, h1, h2, h3, h4, h5, h6, h7⟩
  · injection h1 with q1 q2 q3
    subst q1 q2 q3
    refine (slices_Compact_int_empty none 0 w).mono ?_
    rintro e w' ⟨rfl, rfl⟩
    have hx : xs = [] := List.eq_nil_of_length_eq_zero hl
    subst hx
    exact ⟨rfl, by simpa [Lib.compact, Lib.compactUpTo] using ho, Below.refl _ _⟩
  · injection h1 with q1 q2 q3
    subst q1 q3
    have hH : Holds (Value.int .i64) w g 0 xs.toArray := holds_of_blockI h3 (by rw [Nat.mul_one] at h7; rw [hl]; exact h7)
    subst hl
    refine (slices_Compact_int g 0 c xs w hH (by omega) h4).mono ?_
    rintro e w' ⟨rfl, q, rfl⟩
    have hle := Lib.compact_length_le xs
    have := Lib.ownsRow_putRow (enc := Value.int .i64) (q := q) (ys := Lib.compact xs ++ List.replicate (xs.length - (Lib.compact xs).length) 0) ho' (by simp; omega) hle
    rw [List.take_left] at this
    exact ⟨rfl, this, Lib.below_putRow (Below.refl _ w) h2⟩
end Go.Proofs.Ytfopiifchcaciaa
