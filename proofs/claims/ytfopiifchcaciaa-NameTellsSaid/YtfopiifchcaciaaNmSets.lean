/-
  Lists of numbers that rise: there is one of just these numbers; what is sorted and made compact is one; what is put among the others at its place is one.
-/
import Derived.Test.YtfopiifchcaciaaNmPlain
import Derived.Lib.RowBridge
namespace Go.Proofs.Ytfopiifchcaciaa

/-- Each is less than all behind it. -/
def Rise (l : List Int) : Prop := l.Pairwise (· < ·)
theorem rise_only : ∀ (a b : List Int), Rise a → Rise b → (∀ x, x ∈ a ↔ x ∈ b) → a = b
  | [], [], _, _, _ => rfl
  | [], y :: b, _, _, h => by have := (h y).2 List.mem_cons_self; cases this
  | x :: a, [], _, _, h => by have := (h x).1 List.mem_cons_self; cases this
  | x :: a, y :: b, ha, hb, h => by
    have ha' := List.pairwise_cons.1 ha
    have hb' := List.pairwise_cons.1 hb
    have hxy : x = y := by
      rcases List.mem_cons.1 ((h x).1 List.mem_cons_self) with e | hx
      · exact e
      · rcases List.mem_cons.1 ((h y).2 List.mem_cons_self) with e | hy
        · exact e.symm
        · have := hb'.1 x hx; have := ha'.1 y hy; omega
    subst hxy
    congr 1
    refine rise_only a b ha'.2 hb'.2 fun z => ⟨fun hz => ?_, fun hz => ?_⟩
    · rcases List.mem_cons.1 ((h z).1 (List.mem_cons_of_mem _ hz)) with e | hz'
      · have := ha'.1 z hz; omega
      · exact hz'
    · rcases List.mem_cons.1 ((h z).2 (List.mem_cons_of_mem _ hz)) with e | hz'
      · have := hb'.1 z hz; omega
      · exact hz'

theorem compact_rise (d : Array Int) (hs : ∀ i j, i < j → j < d.size → d[i]! ≤ d[j]!) : ∀ m, m ≤ d.size →
    Rise (Lib.compactUpTo d m) ∧ (∀ x ∈ Lib.compactUpTo d m, ∃ j, j < m ∧ d[j]! = x) ∧ (∀ j, j < m → d[j]! ∈ Lib.compactUpTo d m)
  | 0, _ => ⟨List.Pairwise.nil, fun x hx => by simp [Lib.compactUpTo] at hx, fun j hj => by omega⟩
  | m + 1, hm => by
    obtain ⟨h1, h2, h3⟩ := compact_rise d hs m (by omega)
    rw [Lib.compactUpTo_succ]
    by_cases hk : Lib.keeps d m = true
    · rw [if_pos hk]
      refine ⟨List.pairwise_append.2 ⟨h1, List.pairwise_singleton _ _, fun x hx y hy => ?_⟩, fun x hx => ?_, fun j hj => ?_⟩
      · rw [List.mem_singleton] at hy
        subst hy
        obtain ⟨j, hj, rfl⟩ := h2 x hx
        have hk' := of_decide_eq_true hk
        rcases hk' with e | hne
        · omega
        · have a1 := hs (m - 1) m (by omega) (by omega)
          rcases Nat.lt_or_ge j (m - 1) with hlt | hge
          · have a2 := hs j (m - 1) hlt (by omega)
            omega
          · obtain rfl : j = m - 1 := by omega
            omega
      · rcases List.mem_append.1 hx with hx | hx
        · obtain ⟨j, hj, e⟩ := h2 x hx
          exact ⟨j, by omega, e⟩
        · rw [List.mem_singleton] at hx
          exact ⟨m, by omega, hx.symm⟩
      · rcases Nat.lt_or_ge j m with hlt | hge
        · exact List.mem_append.2 (.inl (h3 j hlt))
        · obtain rfl : j = m := by omega
          exact List.mem_append.2 (.inr (List.mem_singleton.2 rfl))
    · rw [if_neg hk, List.append_nil]
      refine ⟨h1, fun x hx => ?_, fun j hj => ?_⟩
      · obtain ⟨j, hj, e⟩ := h2 x hx
        exact ⟨j, by omega, e⟩
      · rcases Nat.lt_or_ge j m with hlt | hge
        · exact h3 j hlt
        · obtain rfl : j = m := by omega
          have hk' : ¬ (j = 0 ∨ d[j]! ≠ d[j - 1]!) := fun h => hk (decide_eq_true h)
          have e : d[j]! = d[j - 1]! := Classical.byContradiction fun h => hk' (.inr h)
          rw [e]
          have hj0 : j ≠ 0 := fun h => hk' (.inl h)
          exact h3 (j - 1) (by omega)

/-- The numbers of a list, the least first, each once. -/
def setP (xs : List Int) : List Int := Lib.compact (xs.mergeSort fun x y => decide (x ≤ y))
theorem set_rise (xs : List Int) : Rise (setP xs) ∧ ∀ x, x ∈ setP xs ↔ x ∈ xs := by
  have hsort := List.pairwise_mergeSort (le := fun x y : Int => decide (x ≤ y)) (fun a b c h1 h2 => by have := of_decide_eq_true h1; have := of_decide_eq_true h2; exact decide_eq_true (by omega)) (fun a b => by
    rcases Int.le_total a b with h | h
    · simp [h]
    · simp [h]) xs
  have hperm := List.mergeSort_perm xs fun x y : Int => decide (x ≤ y)
  unfold setP Lib.compact
  generalize xs.mergeSort (fun x y : Int => decide (x ≤ y)) = zs at *
  have hget : ∀ j, j < zs.length → zs.toArray[j]! = zs[j]! := fun j hj => by simp [hj]
  have hs : ∀ i j, i < j → j < zs.toArray.size → zs.toArray[i]! ≤ zs.toArray[j]! := fun i j hij hj => by
    have hj' : j < zs.length := by simpa using hj
    have := List.pairwise_iff_getElem.1 hsort i j (by omega) hj' hij
    have := of_decide_eq_true this
    simpa [hj', show i < zs.length by omega] using this
  obtain ⟨h1, h2, h3⟩ := compact_rise zs.toArray hs zs.length (by simp)
  refine ⟨h1, fun x => ⟨fun hx => ?_, fun hx => ?_⟩⟩
  · obtain ⟨j, hj, e⟩ := h2 x hx
    refine hperm.mem_iff.1 ?_
    rw [← e]
    simp [hj]
  · obtain ⟨j, hj, e⟩ := List.getElem_of_mem (hperm.mem_iff.2 hx)
    have := h3 j hj
    simpa [hj, e] using this
theorem set_like (xs ys : List Int) (h : ∀ x, x ∈ xs ↔ x ∈ ys) : setP xs = setP ys :=
  rise_only _ _ (set_rise xs).1 (set_rise ys).1 fun x => by rw [(set_rise xs).2, (set_rise ys).2, h]
theorem set_of (xs ys : List Int) (hr : Rise ys) (h : ∀ x, x ∈ ys ↔ x ∈ xs) : setP xs = ys :=
  rise_only _ _ (set_rise xs).1 hr fun x => by rw [(set_rise xs).2, h]
theorem set_length (xs : List Int) : (setP xs).length ≤ xs.length := by
  unfold setP
  exact Nat.le_trans (Lib.compact_length_le _) (by rw [List.length_mergeSort]; exact Nat.le_refl _)
theorem set_nil : setP [] = [] := by
  have := set_length []
  exact List.eq_nil_of_length_eq_zero (by simpa using this)

/-- What is put among them at its place. -/
theorem set_put (ys : List Int) (n : Int) (at_ : Nat) (hr : Rise ys) (h1 : ∀ j, j < at_ → j < ys.length → ys.getD j 0 < n) (h2 : at_ < ys.length → n < ys.getD at_ 0) :
    Rise (ys.take at_ ++ n :: ys.drop at_) := by
  have low : ∀ x ∈ ys.take at_, x < n := fun x hx => by
    obtain ⟨j, hj, e⟩ := List.getElem_of_mem hx
    have hj' : j < at_ ∧ j < ys.length := by rw [List.length_take] at hj; omega
    have := h1 j hj'.1 hj'.2
    rw [List.getElem_take] at e
    simp [hj'.2] at this
    omega
  have high : ∀ x ∈ ys.drop at_, n < x := fun x hx => by
    obtain ⟨j, hj, e⟩ := List.getElem_of_mem hx
    have hj' : at_ + j < ys.length := by simp at hj; omega
    have h := h2 (by omega)
    rw [List.getElem_drop] at e
    simp [show at_ < ys.length by omega] at h
    rcases Nat.eq_zero_or_pos j with h0 | h0
    · subst h0
      simp at e
      omega
    · have := List.pairwise_iff_getElem.1 hr at_ (at_ + j) (by omega) hj' (by omega)
      omega
  have hsplit : Rise (ys.take at_ ++ ys.drop at_) := by rw [List.take_append_drop]; exact hr
  obtain ⟨q1, q2, q3⟩ := List.pairwise_append.1 hsplit
  refine List.pairwise_append.2 ⟨q1, List.pairwise_cons.2 ⟨high, q2⟩, fun x hx y hy => ?_⟩
  rcases List.mem_cons.1 hy with rfl | hy
  · exact low x hx
  · exact q3 x hx y hy
theorem mem_put (ys : List Int) (n : Int) (at_ : Nat) (x : Int) : x ∈ ys.take at_ ++ n :: ys.drop at_ ↔ x = n ∨ x ∈ ys := by
  have := List.take_append_drop at_ ys
  constructor
  · intro h
    rcases List.mem_append.1 h with h | h
    · exact .inr (List.mem_of_mem_take h)
    · rcases List.mem_cons.1 h with h | h
      · exact .inl h
      · exact .inr (List.mem_of_mem_drop h)
  · rintro (rfl | h)
    · simp
    · rw [← this] at h
      rcases List.mem_append.1 h with h | h
      · exact List.mem_append.2 (.inl h)
      · exact List.mem_append.2 (.inr (List.mem_cons_of_mem _ h))

/-- The number of a segment's name. -/
def segP (s : List UInt8) : Option Int :=
  match parseP s with
  | some (k, n) => if k = 1 then some n else none
  | none => none
theorem seg_is (s : List UInt8) (x : Int) : segP s = some x ↔ parseP s = some (1, x) := by
  unfold segP
  cases h : parseP s with
  | none => simp
  | some p =>
    obtain ⟨k, n⟩ := p
    simp only [Option.some.injEq, Prod.mk.injEq]
    constructor
    · intro h
      split at h
      · rename_i hk
        exact ⟨hk, Option.some.inj h⟩
      · cases h
    · rintro ⟨rfl, rfl⟩
      rw [if_pos rfl]
/-- The numbers of a list of names, in its order. -/
def numsP (l : List (List UInt8)) : List Int := l.filterMap segP
theorem nums_length (l : List (List UInt8)) : (numsP l).length ≤ l.length := List.length_filterMap_le _ _
theorem nums_append (a b : List (List UInt8)) : numsP (a ++ b) = numsP a ++ numsP b := List.filterMap_append
theorem mem_nums (l : List (List UInt8)) (x : Int) : x ∈ numsP l ↔ ∃ s ∈ l, parseP s = some (1, x) := by
  unfold numsP
  rw [List.mem_filterMap]
  simp only [seg_is]
end Go.Proofs.Ytfopiifchcaciaa
