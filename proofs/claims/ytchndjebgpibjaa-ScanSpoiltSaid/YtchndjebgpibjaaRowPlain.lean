/-
  Frames one behind the other: what is found of them. No program in sight.
-/
import Derived.Test.YtchndjebgpibjaaScanPlain
import Derived.Test.YtchndjebgpibjaaSpoilt
namespace Go.Proofs.Ytchndjebgpibjaa

/-- Is it a body? -/
def Good (b : List UInt8) : Prop := 1 ≤ b.length ∧ b.length ≤ 8192
instance (b : List UInt8) : Decidable (Good b) := inferInstanceAs (Decidable (_ ∧ _))
/-- Frames of all bodies among these, one behind the other; where each is. -/
def putL : List (List UInt8) → List UInt8
  | [] => []
  | b :: r => putB b ++ putL r
def itsL : List (List UInt8) → Nat → List (Nat × Nat × List UInt8)
  | [], _ => []
  | b :: r, a => if Good b then (a, b.length + 8, b) :: itsL r (a + (b.length + 8)) else itsL r a
theorem putB_good {b : List UInt8} (h : Good b) : putB b = frameB b := by unfold putB; exact if_pos h
theorem putB_ill {b : List UInt8} (h : ¬ Good b) : putB b = [] := by unfold putB; exact if_neg h
theorem putL_append : ∀ (l r : List (List UInt8)), putL (l ++ r) = putL l ++ putL r
  | [], _ => rfl
  | b :: l, r => by rw [List.cons_append, putL, putL, putL_append l r, List.append_assoc]
theorem itsL_append : ∀ (l r : List (List UInt8)) (a : Nat), itsL (l ++ r) a = itsL l a ++ itsL r (a + (putL l).length)
  | [], _, _ => by simp [itsL, putL]
  | b :: l, r, a => by
    rw [List.cons_append, itsL, itsL, putL, List.length_append]
    by_cases h : Good b
    · rw [if_pos h, if_pos h, itsL_append l r, putB_good h, frameB_length, List.cons_append, Nat.add_assoc]
    · rw [if_neg h, if_neg h, itsL_append l r, putB_ill h, List.length_nil, Nat.zero_add]
theorem itsL_sizes : ∀ (l : List (List UInt8)) (a : Nat) (t : Nat × Nat × List UInt8), t ∈ itsL l a → a ≤ t.1 ∧ t.1 + t.2.1 ≤ a + (putL l).length ∧ 9 ≤ t.2.1
  | [], _, _, h => by cases h
  | b :: l, a, t, h => by
    rw [itsL] at h
    by_cases hb : Good b
    · rw [if_pos hb] at h
      rw [putL, List.length_append, putB_good hb, frameB_length]
      have hg : 1 ≤ b.length := hb.1
      rcases List.mem_cons.1 h with rfl | h
      · dsimp only; omega
      · have := itsL_sizes l _ t h; omega
    · rw [if_neg hb] at h
      rw [putL, putB_ill hb]
      exact itsL_sizes l a t h
theorem itsL_count : ∀ (l : List (List UInt8)) (a : Nat), 9 * (itsL l a).length ≤ (putL l).length
  | [], _ => by simp [itsL, putL]
  | b :: l, a => by
    rw [itsL, putL, List.length_append]
    by_cases hb : Good b
    · rw [if_pos hb, putB_good hb, frameB_length, List.length_cons]
      have := itsL_count l (a + (b.length + 8))
      have hg : 1 ≤ b.length := hb.1
      omega
    · rw [if_neg hb]
      have := itsL_count l a
      omega
theorem putL_size : ∀ (l : List (List UInt8)), (putL l).length ≤ (l.map List.length).sum + 8 * l.length
  | [] => by simp [putL]
  | b :: l => by
    rw [putL, List.length_append, List.map_cons, List.sum_cons, List.length_cons]
    have := putL_size l
    by_cases hb : Good b
    · rw [putB_good hb, frameB_length]; omega
    · rw [putB_ill hb, List.length_nil]; omega

theorem frame_ne (b : List UInt8) (more : List UInt8) : frameB b ++ more ≠ [] := fun h => by
  have := congrArg List.length h
  rw [List.length_append, frameB_length] at this
  simp at this
/-- Of frames, with whatever behind, all are found. -/
theorem all_put : ∀ (l : List (List UInt8)) (more : List UInt8) (a : Nat), allB (putL l ++ more) a = (itsL l a ++ (allB more (a + (putL l).length)).1, (allB more (a + (putL l).length)).2)
  | [], more, a => by simp [putL, itsL]
  | b :: l, more, a => by
    rw [putL, itsL, List.length_append]
    by_cases hb : Good b
    · rw [if_pos hb, putB_good hb, List.append_assoc, allB_got (frame_ne b _) (first_back b (putL l ++ more) hb.1 hb.2), frameB_length, List.drop_left' (frameB_length b), all_put l more, Nat.add_assoc a (b.length + 8)]
      rfl
    · rw [if_neg hb, putB_ill hb, List.nil_append, List.length_nil, Nat.zero_add]
      exact all_put l more a
theorem all_put0 (l : List (List UInt8)) : allB (putL l) 0 = (itsL l 0, 0, (putL l).length, 0) := by
  have := all_put l [] 0
  rw [List.append_nil, Nat.zero_add] at this
  rw [this, allB_nil, List.append_nil]

/-- Where one that is found begins it is the next one. -/
theorem its_at : ∀ (l : List (List UInt8)) (a i : Nat) (t : Nat × Nat × List UInt8), (itsL l a)[i]? = some t →
    ∃ more, Good t.2.2 ∧ t.2.1 = t.2.2.length + 8 ∧ (putL l).drop (t.1 - a) = frameB t.2.2 ++ more ∧ a ≤ t.1 ∧ t.1 + t.2.1 ≤ a + (putL l).length ∧
      (match (itsL l a)[i + 1]? with | some u => u.1 = t.1 + t.2.1 | none => more = [] ∧ t.1 + t.2.1 = a + (putL l).length)
  | [], _, _, _, h => by simp [itsL] at h
  | b :: l, a, i, t, h => by
    rw [itsL] at h ⊢
    rw [putL, List.length_append]
    by_cases hb : Good b
    · rw [if_pos hb] at h ⊢
      rw [putB_good hb, frameB_length]
      cases i with
      | zero =>
        simp only [List.getElem?_cons_zero, Option.some.injEq] at h
        subst h
        refine ⟨putL l, hb, rfl, by simp, by dsimp only; omega, by dsimp only; omega, ?_⟩
        rw [List.getElem?_cons_succ]
        rcases hl : itsL l (a + (b.length + 8)) with _ | ⟨u, r⟩
        · simp only [List.getElem?_nil]
          have : putL l = [] := its_none l _ hl
          rw [this]
          exact ⟨rfl, by simp⟩
        · simp only [List.getElem?_cons_zero]
          exact its_first l _ _ _ hl
      | succ i =>
        rw [List.getElem?_cons_succ] at h
        obtain ⟨more, h1, h2, h3, h4, h5, h6⟩ := its_at l _ i t h
        refine ⟨more, h1, h2, ?_, by omega, by omega, ?_⟩
        · rw [← h3, List.drop_append, frameB_length, List.drop_of_length_le (by rw [frameB_length]; omega), List.nil_append]
          congr 1
          omega
        · rw [List.getElem?_cons_succ]
          revert h6
          cases (itsL l (a + (b.length + 8)))[i + 1]? with
          | some u => exact fun h => h
          | none => exact fun h => ⟨h.1, by omega⟩
    · rw [if_neg hb] at h ⊢
      rw [putB_ill hb, List.nil_append, List.length_nil, Nat.zero_add]
      exact its_at l a i t h
where
  its_none : ∀ (l : List (List UInt8)) (a : Nat), itsL l a = [] → putL l = []
  | [], _, _ => rfl
  | b :: l, a, h => by
    rw [itsL] at h
    by_cases hb : Good b
    · rw [if_pos hb] at h; cases h
    · rw [if_neg hb] at h
      rw [putL, putB_ill hb, its_none l a h]; rfl
  its_first : ∀ (l : List (List UInt8)) (a : Nat) (u : Nat × Nat × List UInt8) (r : List (Nat × Nat × List UInt8)), itsL l a = u :: r → u.1 = a
  | [], _, _, _, h => by cases h
  | b :: l, a, u, r, h => by
    rw [itsL] at h
    by_cases hb : Good b
    · rw [if_pos hb] at h; cases h; rfl
    · rw [if_neg hb] at h; exact its_first l a u r h
theorem next_at {l : List (List UInt8)} {i : Nat} {t : Nat × Nat × List UInt8} (h : (itsL l 0)[i]? = some t) : nextB ((putL l).drop t.1) t.1 = (t, 0, t.1 + t.2.1, 0) := by
  obtain ⟨more, h1, h2, h3, -, -, -⟩ := its_at l 0 i t h
  rw [Nat.sub_zero] at h3
  obtain ⟨x, y, z⟩ := t
  dsimp only at h1 h2 h3 ⊢
  rw [h3, nextB_got (frame_ne _ _) (first_back z more h1.1 h1.2), ← h2]
end Go.Proofs.Ytchndjebgpibjaa
