/-
  Frames one behind the other of which one has turned within 32 bits behind its length. No program in sight.
-/
import Derived.Test.YtchndjebgpibjaaRowPlain
namespace Go.Proofs.Ytchndjebgpibjaa

theorem flipB_behind (x y : List UInt8) (p : Nat) (h : 8 * x.length ≤ p) : flipB (x ++ y) p = x ++ flipB y (p - 8 * x.length) := by
  unfold flipB
  have h1 : x.length ≤ p / 8 := by omega
  have h2 : (p - 8 * x.length) / 8 = p / 8 - x.length := by omega
  have h3 : (p - 8 * x.length) % 8 = p % 8 := by omega
  rw [List.set_append_right _ _ h1, h2, h3]
  congr 2
  simp only [List.getD_eq_getElem?_getD, List.getElem?_append_right h1]
theorem burstB_behind (x y : List UInt8) (k v : Nat) (h : 8 * x.length ≤ k) : ∀ i, burstB (x ++ y) k v i = x ++ burstB y (k - 8 * x.length) v i
  | 0 => rfl
  | i + 1 => by
    simp only [burstB]
    rw [burstB_behind x y k v h i]
    split
    · rw [flipB_behind _ _ _ (by omega), show k + i - 8 * x.length = k - 8 * x.length + i by omega]
    · rfl
theorem spoil_row : ∀ (l : List (List UInt8)) (a i : Nat) (t : Nat × Nat × List UInt8), (itsL l a)[i]? = some t → ∀ (K v : Nat), 8 * (t.1 - a + 4) ≤ K → K + 32 ≤ 8 * (t.1 - a + t.2.1) → v < 4294967296 → v ≠ 0 →
    allB (burstB (putL l) K v 32) a = ((itsL l a).take i ++ (itsL l a).drop (i + 1), 1, a + (putL l).length, 0)
  | [], _, _, _, h => by simp [itsL] at h
  | b :: l, a, i, t, h => by
    intro K v h1 h2 hv hv0
    rw [itsL] at h ⊢
    rw [putL]
    by_cases hb : Good b
    · rw [if_pos hb] at h ⊢
      rw [putB_good hb]
      cases i with
      | zero =>
        simp only [List.getElem?_cons_zero, Option.some.injEq] at h
        subst h
        dsimp only at h1 h2
        have hf := spoilt_told b (putL l) hb.1 hb.2 K v (by omega) (by omega) hv hv0
        have hne : burstB (frameB b ++ putL l) K v 32 ≠ [] := fun h => by
          have := congrArg List.length h
          rw [burstB_length, List.length_append, frameB_length] at this
          simp at this
        have hrest : (burstB (frameB b ++ putL l) K v 32).drop (b.length + 8) = putL l := by
          rw [burstB_append _ _ _ _ _ (by rw [frameB_length]; omega), List.drop_left' (by rw [burstB_length, frameB_length])]
        rw [allB_bad hne hf (by omega) (by omega), hrest]
        have := all_put l [] (a + (b.length + 8))
        rw [List.append_nil, allB_nil, List.append_nil] at this
        rw [this, List.length_append, frameB_length, Nat.add_assoc]
        rfl
      | succ i =>
        rw [List.getElem?_cons_succ] at h
        have hsz := itsL_sizes l _ t (List.mem_of_getElem? h)
        rw [burstB_behind _ _ _ _ (by rw [frameB_length]; omega), frameB_length, allB_got (frame_ne b _) (first_back b _ hb.1 hb.2), List.drop_left' (frameB_length b),
          spoil_row l (a + (b.length + 8)) i t h (K - 8 * (b.length + 8)) v (by omega) (by omega) hv hv0, List.length_append, frameB_length, Nat.add_assoc]
        rfl
    · rw [if_neg hb] at h ⊢
      rw [putB_ill hb, List.nil_append]
      exact spoil_row l a i t h K v h1 h2 hv hv0
end Go.Proofs.Ytchndjebgpibjaa
