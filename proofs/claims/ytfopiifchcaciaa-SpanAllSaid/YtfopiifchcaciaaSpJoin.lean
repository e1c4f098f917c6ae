/-
  A range of pieces, parted anywhere: the parts of both, but that one piece may be parted.
-/
import Derived.Test.YtfopiifchcaciaaSpMore
namespace Go.Proofs.Ytfopiifchcaciaa
open Go.RowKit
set_option linter.unusedVariables false

theorem parts_late (fr mid to : Int) (h : fr ≤ mid) : ∀ (xs : List Int) (i b : Int), (∀ x ∈ xs, 0 < x) → mid ≤ b → partsP fr mid i b xs = [] ∧ partsP fr to i b xs = partsP mid to i b xs
  | [], _, _, _, _ => ⟨rfl, rfl⟩
  | x :: xs, i, b, hx, hb => by
    have h1 := hx x (by simp)
    obtain ⟨h2, h3⟩ := parts_late fr mid to h xs (i + 1) (b + x) (fun y hy => hx y (by simp [hy])) (by omega)
    simp only [partsP, partP]
    rw [h2, h3, show max (fr - b) 0 = 0 by omega, show max (mid - b) 0 = 0 by omega, if_neg (by omega)]
    exact ⟨rfl, rfl⟩
theorem parts_from (fr to : Int) : ∀ (xs : List Int) (i b : Int), ∀ p ∈ partsP fr to i b xs, i ≤ p.1
  | [], _, _, p, hp => by simp [partsP] at hp
  | x :: xs, i, b, p, hp => by
    simp only [partsP, List.mem_append] at hp
    rcases hp with hp | hp
    · unfold partP at hp
      split at hp
      · rw [List.mem_singleton.1 hp]; exact Int.le_refl _
      · simp at hp
    · have := parts_from fr to xs (i + 1) (b + x) p hp
      omega

/-- What a range is, of the parts of both halves. -/
def Joins (one two all : List Pt) : Prop :=
  (∃ (ini : List Pt) (p q : Pt) (qs : List Pt), one = ini ++ [p] ∧ two = q :: qs ∧ p.1 = q.1 ∧ all = ini ++ [(p.1, p.2.1, q.2.2)] ++ qs) ∨
    (all = one ++ two ∧ ∀ (ini : List Pt) (p q : Pt) (qs : List Pt), one = ini ++ [p] → two = q :: qs → p.1 ≠ q.1)
theorem Joins.ahead {one two all : List Pt} (h : Joins one two all) (hd : List Pt) (i : Int) (hh : hd = [] ∨ ∃ p, hd = [p] ∧ p.1 = i) (ht : ∀ q ∈ two, i < q.1) : Joins (hd ++ one) two (hd ++ all) := by
  rcases h with ⟨ini, p, q, qs, rfl, rfl, he, rfl⟩ | ⟨rfl, hn⟩
  · exact .inl ⟨hd ++ ini, p, q, qs, by simp, rfl, he, by simp⟩
  · refine .inr ⟨by simp, fun ini p q qs h1 h2 => ?_⟩
    rcases List.eq_nil_or_concat one with rfl | ⟨ini', p', rfl⟩
    · rw [List.append_nil] at h1
      rcases hh with rfl | ⟨p0, rfl, rfl⟩
      · simp at h1
      · have hp : p0 = p := by
          have := congrArg List.getLast? h1
          simpa using this
        subst hp
        have := ht q (by rw [h2]; simp)
        omega
    · have hp : p' = p := by
        have := congrArg List.getLast? h1
        simpa using this
      subst hp
      exact hn ini' p' q qs (by simp) h2
theorem parts_join (fr mid to : Int) (h1 : fr ≤ mid) (h2 : mid ≤ to) : ∀ (xs : List Int) (i b : Int), (∀ x ∈ xs, 0 < x) → Joins (partsP fr mid i b xs) (partsP mid to i b xs) (partsP fr to i b xs)
  | [], _, _, _ => .inr ⟨rfl, fun ini p q qs h => by simp [partsP] at h⟩
  | x :: xs, i, b, hx => by
    have hx1 := hx x (by simp)
    have hx2 : ∀ y ∈ xs, 0 < y := fun y hy => hx y (by simp [hy])
    by_cases ha : mid ≤ b
    · obtain ⟨e1, e2⟩ := parts_late fr mid to h1 (x :: xs) i b hx ha
      rw [e1, e2]
      exact .inr ⟨rfl, fun ini p q qs h => by simp at h⟩
    by_cases hb : b + x ≤ mid
    · have ih := parts_join fr mid to h1 h2 xs (i + 1) (b + x) hx2
      simp only [partsP]
      have e1 : partP mid to i b x = [] := by unfold partP; rw [if_neg (by omega)]
      have e2 : partP fr to i b x = partP fr mid i b x := by
        unfold partP
        rw [show min (to - b) x = x by omega, show min (mid - b) x = x by omega]
      rw [e1, e2, List.nil_append]
      refine ih.ahead _ i ?_ fun q hq => by have := parts_from mid to xs (i + 1) (b + x) q hq; omega
      unfold partP
      split
      · exact .inr ⟨_, rfl, rfl⟩
      · exact .inl rfl
    · obtain ⟨e1, e2⟩ := parts_late fr mid to h1 xs (i + 1) (b + x) hx2 (by omega)
      simp only [partsP]
      rw [e1, e2, List.append_nil]
      unfold partP
      rw [show min (mid - b) x = mid - b by omega, show max (mid - b) 0 = mid - b by omega]
      by_cases c1 : max (fr - b) 0 < mid - b
      · rw [if_pos c1]
        by_cases c2 : mid - b < min (to - b) x
        · rw [if_pos c2, if_pos (by omega)]
          exact .inl ⟨[], (i, max (fr - b) 0, mid - b), (i, mid - b, min (to - b) x), _, rfl, rfl, rfl, rfl⟩
        · have ht : to = mid := by omega
          have e3 : partsP mid to (i + 1) (b + x) xs = [] := by rw [← e2, ht]; exact e1
          rw [if_neg c2, e3, show min (to - b) x = mid - b by omega, if_pos c1]
          exact .inr ⟨rfl, fun ini p q qs _ h => by simp at h⟩
      · have hf : fr = mid := by omega
        subst hf
        rw [if_neg c1, show max (fr - b) 0 = fr - b by omega]
        exact .inr ⟨rfl, fun ini p q qs h => by simp at h⟩
end Go.Proofs.Ytfopiifchcaciaa
