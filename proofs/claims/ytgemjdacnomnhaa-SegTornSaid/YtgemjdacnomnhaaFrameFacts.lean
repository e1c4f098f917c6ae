/-
  What holds of frames: what is in a frame is got of it; what is got has the frame; a frame that is cut is short; a frame in which something within 32 bits has turned is not got as one of its length. No program in sight.
-/
import Derived.Test.YtgemjdacnomnhaaFramePlain
import Derived.Test.YtgemjdacnomnhaaBurst
namespace Go.Proofs.Ytgemjdacnomnhaa

theorem told_head (n : Nat) (h : n ≤ 8192) (x : List UInt8) : toldN (headB n ++ x) = n := by
  unfold toldN headB
  simp only [List.cons_append, List.getD_cons_zero, List.getD_cons_succ, UInt8.toNat_ofNat']
  omega
theorem take_head (n : Nat) (x : List UInt8) : (headB n ++ x).take 4 = headB n := by
  rw [List.take_append_of_le_length (by rw [headB_length]; omega), List.take_of_length_le (by rw [headB_length]; omega)]

theorem first_back (b more : List UInt8) (h1 : 1 ≤ b.length) (h2 : b.length ≤ 8192) : firstB (frameB b ++ more) = (b, b.length + 8, 0) := by
  have e : frameB b ++ more = headB b.length ++ (b ++ (tailB (headB b.length ++ b) ++ more)) := by unfold frameB; simp [List.append_assoc]
  have hl : (frameB b ++ more).length = b.length + 8 + more.length := by rw [List.length_append, frameB_length]
  unfold firstB
  rw [if_neg (by omega)]
  have ht : toldN (frameB b ++ more) = b.length := by rw [e]; exact told_head _ h2 _
  have hk : (frameB b ++ more).take 4 = headB b.length := by rw [e]; exact take_head _ _
  rw [ht, hk, if_neg (fun h => h.elim (fun h => h ⟨h1, h2⟩) (fun h => h rfl)), if_neg (by omega)]
  have hx : (frameB b ++ more).take (b.length + 4) = headB b.length ++ b := by
    unfold frameB
    rw [List.append_assoc (headB b.length ++ b), List.take_append_of_le_length (by rw [List.length_append, headB_length]; omega), List.take_of_length_le (by rw [List.length_append, headB_length]; omega)]
  have hy : ((frameB b ++ more).drop (b.length + 4)).take 4 = tailB (headB b.length ++ b) := by
    unfold frameB
    rw [List.append_assoc (headB b.length ++ b), List.drop_left' (by rw [List.length_append, headB_length]; omega), List.take_left' (tailB_length _)]
  rw [hx, hy, if_neg (fun h => h rfl)]
  have hz : ((frameB b ++ more).drop 4).take b.length = b := by
    rw [e, List.drop_left' (headB_length _), List.take_left' rfl]
  rw [hz]

theorem first_got {c y : List UInt8} {k : Nat} (h : firstB c = (y, k, 0)) : 9 ≤ k ∧ k ≤ c.length ∧ putB y = c.take k := by
  unfold firstB at h
  by_cases h4 : c.length < 4
  · rw [if_pos h4] at h; simp at h
  rw [if_neg h4] at h
  by_cases hm : ¬ (1 ≤ toldN c ∧ toldN c ≤ 8192) ∨ c.take 4 ≠ headB (toldN c)
  · rw [if_pos hm] at h; simp at h
  rw [if_neg hm] at h
  by_cases h8 : c.length < toldN c + 8
  · rw [if_pos h8] at h; simp at h
  rw [if_neg h8] at h
  by_cases hx : (c.drop (toldN c + 4)).take 4 ≠ tailB (c.take (toldN c + 4))
  · rw [if_pos hx] at h; simp at h
  rw [if_neg hx] at h
  simp only [Prod.mk.injEq, and_true] at h
  obtain ⟨hy, hk⟩ := h
  have hr : 1 ≤ toldN c ∧ toldN c ≤ 8192 := Decidable.not_not.1 fun h => hm (.inl h)
  have hh : c.take 4 = headB (toldN c) := Decidable.not_not.1 fun h => hm (.inr h)
  have ht : (c.drop (toldN c + 4)).take 4 = tailB (c.take (toldN c + 4)) := Decidable.not_not.1 hx
  generalize toldN c = T at *
  have hyl : y.length = T := by rw [← hy, List.length_take, List.length_drop]; omega
  refine ⟨by omega, by omega, ?_⟩
  unfold putB
  rw [hyl, if_pos hr]
  unfold frameB
  have h1 : c.take (T + 4) = headB T ++ y := by
    rw [← hy, ← hh, ← List.take_add, Nat.add_comm]
  rw [hyl, ← h1, ← ht, ← hk, ← List.take_add]

theorem first_ill {c y : List UInt8} {k e : Nat} (h : firstB c = (y, k, e)) (he : e ≠ 0) : y = [] ∧ (k = 0 ∨ e = 22 ∧ 9 ≤ k ∧ k ≤ c.length) := by
  unfold firstB at h
  by_cases h4 : c.length < 4
  · rw [if_pos h4] at h; simp at h; obtain ⟨rfl, rfl, rfl⟩ := h; simp
  rw [if_neg h4] at h
  by_cases hm : ¬ (1 ≤ toldN c ∧ toldN c ≤ 8192) ∨ c.take 4 ≠ headB (toldN c)
  · rw [if_pos hm] at h; simp at h; obtain ⟨rfl, rfl, rfl⟩ := h; simp
  rw [if_neg hm] at h
  by_cases h8 : c.length < toldN c + 8
  · rw [if_pos h8] at h; simp at h; obtain ⟨rfl, rfl, rfl⟩ := h; simp
  rw [if_neg h8] at h
  have hr : 1 ≤ toldN c ∧ toldN c ≤ 8192 := Decidable.not_not.1 fun h => hm (.inl h)
  by_cases hx : (c.drop (toldN c + 4)).take 4 ≠ tailB (c.take (toldN c + 4))
  · rw [if_pos hx] at h; simp at h; obtain ⟨rfl, rfl, rfl⟩ := h; refine ⟨rfl, .inr ⟨rfl, by omega, by omega⟩⟩
  · rw [if_neg hx] at h; simp at h; exact absurd h.2.2.symm he

theorem first_short_cut (b : List UInt8) (h1 : 1 ≤ b.length) (h2 : b.length ≤ 8192) (j : Nat) (hj : j < b.length + 8) : firstB ((frameB b).take j) = ([], 0, 21) := by
  have hl : ((frameB b).take j).length = j := by rw [List.length_take, frameB_length]; omega
  unfold firstB
  by_cases h4 : j < 4
  · rw [if_pos (by omega)]
  rw [if_neg (by omega)]
  have e : (frameB b).take j = headB b.length ++ ((b ++ tailB (headB b.length ++ b)).take (j - 4)) := by
    unfold frameB
    rw [List.append_assoc, List.take_append, headB_length, List.take_of_length_le (by rw [headB_length]; omega)]
  have ht : toldN ((frameB b).take j) = b.length := by rw [e]; exact told_head _ h2 _
  have hk : ((frameB b).take j).take 4 = headB b.length := by rw [e]; exact take_head _ _
  rw [ht, hk, if_neg (fun h => h.elim (fun h => h ⟨h1, h2⟩) (fun h => h rfl)), if_pos (by omega)]
end Go.Proofs.Ytgemjdacnomnhaa
