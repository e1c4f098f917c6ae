/-
  Texts that the statements' proofs lean on, one behind the other.
-/
import Derived.Test.YtdjlhdeejpndcaaML
import Derived.Test.YtdjlhdeejpndcaaScanPlain
/-
  A frame in which something within 32 bits has turned. No program in sight.
-/
namespace Go.Proofs.Ytdjlhdeejpndcaa

/-- Bits that are turned in the first of two runs of bytes. -/
theorem flipB_append (x y : List UInt8) (p : Nat) (h : p < 8 * x.length) : flipB (x ++ y) p = flipB x p ++ y := by
  unfold flipB
  have h1 : p / 8 < x.length := by omega
  rw [List.set_append_left _ _ h1]
  congr 2
  simp only [List.getD_eq_getElem?_getD, List.getElem?_append_left h1]
theorem burstB_append (x y : List UInt8) (k v i : Nat) (h : k + i ≤ 8 * x.length) : burstB (x ++ y) k v i = burstB x k v i ++ y := by
  induction i with
  | zero => rfl
  | succ i ih =>
    simp only [burstB]
    rw [ih (by omega)]
    split
    · rw [flipB_append _ _ _ (by rw [burstB_length]; omega)]
    · rfl
theorem flipB_low (x : List UInt8) (p j : Nat) (h : j < p / 8) : (flipB x p).getD j 0 = x.getD j 0 := by
  unfold flipB
  simp only [List.getD_eq_getElem?_getD]
  rw [List.getElem?_set_ne (by omega)]
theorem burstB_low (x : List UInt8) (k v i j : Nat) (h : j < k / 8) : (burstB x k v i).getD j 0 = x.getD j 0 := by
  induction i with
  | zero => rfl
  | succ i ih =>
    simp only [burstB]
    split
    · rw [flipB_low _ _ _ (by omega), ih]
    · exact ih
theorem take_congr {x y : List UInt8} (hl : x.length = y.length) {k : Nat} (h : ∀ j, j < k → x.getD j 0 = y.getD j 0) : x.take k = y.take k := by
  apply List.ext_getElem?
  intro j
  by_cases hj : j < k
  · rw [List.getElem?_take, List.getElem?_take, if_pos hj, if_pos hj]
    have := h j hj
    simp only [List.getD_eq_getElem?_getD] at this
    by_cases hx : j < x.length
    · rw [List.getElem?_eq_getElem hx, List.getElem?_eq_getElem (by omega)] at *
      simpa using this
    · rw [List.getElem?_eq_none (by omega), List.getElem?_eq_none (by omega)]
  · rw [List.getElem?_take, List.getElem?_take, if_neg hj, if_neg hj]
/-- A byte that a sum goes on with, the rest of a number being carried along. -/
theorem next_low (s t : Nat) : nextN tabN s (UInt8.ofNat t) ^^^ (t / 256) = iterN 8 (s ^^^ t) := by
  rw [next_iter, UInt8.toNat_ofNat', show 2 ^ 8 = 256 by rfl]
  conv => rhs; rw [split256 t, Nat.xor_comm (256 * (t / 256)), ← Nat.xor_assoc, iterN_xor]
  have h := iterN_pow 8 (t / 256)
  rw [show 2 ^ 8 = 256 by rfl] at h
  rw [h]
theorem run_low (s t : Nat) (ht : t < 4294967296) : runN tabN s (lowB t) = iterN 32 (s ^^^ t) := by
  have h1 := next_low s t
  have h2 := next_low (nextN tabN s (UInt8.ofNat t)) (t / 256)
  have h3 := next_low (nextN tabN (nextN tabN s (UInt8.ofNat t)) (UInt8.ofNat (t / 256))) (t / 65536)
  have h4 := next_low (nextN tabN (nextN tabN (nextN tabN s (UInt8.ofNat t)) (UInt8.ofNat (t / 256))) (UInt8.ofNat (t / 65536))) (t / 16777216)
  rw [h1, show t / 256 / 256 = t / 65536 by omega] at h2
  rw [h2, show t / 65536 / 256 = t / 16777216 by omega] at h3
  rw [h3, show t / 16777216 / 256 = 0 by omega, Nat.xor_zero] at h4
  show nextN tabN (nextN tabN (nextN tabN (nextN tabN s (UInt8.ofNat t)) (UInt8.ofNat (t / 256))) (UInt8.ofNat (t / 65536))) (UInt8.ofNat (t / 16777216)) = _
  rw [h4, ← iterN_add, ← iterN_add, ← iterN_add]
/-- What all frames' sums are, with their own sum behind them. -/
theorem whole_sum {y : List UInt8} {L : Nat} (h : y.drop L = tailB (y.take L)) : onN tabN 0 y = 4294967295 - iterN 32 4294967295 := by
  have e : y = y.take L ++ tailB (y.take L) := by rw [← h, List.take_append_drop]
  unfold onN
  have hl := onN_lt tabN 0 (y.take L)
  have hs := runN_lt tabN tabN_lt (y.take L) (4294967295 - 0) (by omega)
  have ho : onN tabN 0 (y.take L) = 4294967295 - runN tabN (4294967295 - 0) (y.take L) := rfl
  have hr : runN tabN (4294967295 - 0) y = runN tabN (runN tabN (4294967295 - 0) (y.take L)) (lowB (onN tabN 0 (y.take L))) := by
    conv => lhs; rw [e]
    rw [runN_append]
    rfl
  rw [hr, run_low _ _ hl, ho]
  generalize runN tabN (4294967295 - 0) (y.take L) = s at *
  rw [← xor_ones s hs, Nat.xor_comm, Nat.xor_assoc, Nat.xor_self, Nat.xor_zero]
theorem frame_sum (b : List UInt8) : onN tabN 0 (frameB b) = 4294967295 - iterN 32 4294967295 := by
  refine whole_sum (L := b.length + 4) ?_
  unfold frameB
  have h4 : (headB b.length ++ b).length = b.length + 4 := by rw [List.length_append, headB_length]; omega
  rw [List.drop_left' h4, List.take_left' h4]
/-- What has turned is no frame. -/
theorem turned_ill (b : List UInt8) (k v : Nat) (hk : k + 32 ≤ 8 * (b.length + 8)) (hv : v < 4294967296) (hv0 : v ≠ 0) :
    (burstB (frameB b) k v 32).drop (b.length + 4) ≠ tailB ((burstB (frameB b) k v 32).take (b.length + 4)) := fun h => by
  have h1 := whole_sum h
  rw [← frame_sum b] at h1
  exact hv0 ((burst_sum _ k v (by rw [frameB_length]; exact hk) hv).1 h1)

theorem turned_parts (b more : List UInt8) (k v : Nat) (hk : k + 32 ≤ 8 * (b.length + 8)) :
    ((burstB (frameB b ++ more) k v 32).drop (b.length + 4)).take 4 = (burstB (frameB b) k v 32).drop (b.length + 4) ∧ (burstB (frameB b ++ more) k v 32).take (b.length + 4) = (burstB (frameB b) k v 32).take (b.length + 4) := by
  rw [burstB_append _ _ _ _ _ (by rw [frameB_length]; omega)]
  have hl : (burstB (frameB b) k v 32).length = b.length + 8 := by rw [burstB_length, frameB_length]
  refine ⟨?_, ?_⟩
  · rw [List.drop_append_of_le_length (by omega), List.take_append_of_le_length (by rw [List.length_drop]; omega), List.take_of_length_le (by rw [List.length_drop]; omega)]
  · rw [List.take_append_of_le_length (by omega)]

/-- Wherever it has turned: not got as one of its length. -/
theorem spoilt_not (b more : List UInt8) (_h1 : 1 ≤ b.length) (_h2 : b.length ≤ 8192) (k v : Nat) (hk : k + 32 ≤ 8 * (b.length + 8)) (hv : v < 4294967296) (hv0 : v ≠ 0) :
    ¬ ((firstB (burstB (frameB b ++ more) k v 32)).2.2 = 0 ∧ (firstB (burstB (frameB b ++ more) k v 32)).2.1 = b.length + 8) := by
  rintro ⟨he, hl⟩
  obtain ⟨t1, t2⟩ := turned_parts b more k v hk
  have hill := turned_ill b k v hk hv hv0
  rw [← t1, ← t2] at hill
  generalize burstB (frameB b ++ more) k v 32 = x at *
  unfold firstB at he hl
  by_cases h4 : x.length < 4
  · rw [if_pos h4] at he; simp at he
  rw [if_neg h4] at he hl
  by_cases hm : ¬ (1 ≤ toldN x ∧ toldN x ≤ 8192) ∨ x.take 4 ≠ headB (toldN x)
  · rw [if_pos hm] at he; simp at he
  rw [if_neg hm] at he hl
  by_cases h8 : x.length < toldN x + 8
  · rw [if_pos h8] at he; simp at he
  rw [if_neg h8] at he hl
  by_cases hx : (x.drop (toldN x + 4)).take 4 ≠ tailB (x.take (toldN x + 4))
  · rw [if_pos hx] at he; simp at he
  rw [if_neg hx] at he hl
  dsimp only at hl
  have ht : toldN x = b.length := by omega
  rw [ht] at hx
  exact hx hill
/-- Behind its length: wrong, and as long as it was. -/
theorem spoilt_told (b more : List UInt8) (h1 : 1 ≤ b.length) (h2 : b.length ≤ 8192) (k v : Nat) (hk0 : 32 ≤ k) (hk : k + 32 ≤ 8 * (b.length + 8)) (hv : v < 4294967296) (hv0 : v ≠ 0) :
    firstB (burstB (frameB b ++ more) k v 32) = ([], b.length + 8, 22) := by
  obtain ⟨t1, t2⟩ := turned_parts b more k v hk
  have hill := turned_ill b k v hk hv hv0
  rw [← t1, ← t2] at hill
  have hlen : (burstB (frameB b ++ more) k v 32).length = b.length + 8 + more.length := by rw [burstB_length, List.length_append, frameB_length]
  have hlow : ∀ j, j < 4 → (burstB (frameB b ++ more) k v 32).getD j 0 = (frameB b ++ more).getD j 0 := fun j hj => burstB_low _ _ _ _ _ (by omega)
  have htake : (burstB (frameB b ++ more) k v 32).take 4 = headB b.length := by
    rw [take_congr (by rw [burstB_length]) hlow]
    unfold frameB
    rw [List.append_assoc, List.append_assoc]
    exact take_head _ _
  have htold : toldN (burstB (frameB b ++ more) k v 32) = b.length := by
    unfold toldN
    rw [hlow 0 (by omega), hlow 1 (by omega)]
    have := told_head b.length h2 (b ++ (tailB (headB b.length ++ b) ++ more))
    unfold toldN at this
    rw [show frameB b ++ more = headB b.length ++ (b ++ (tailB (headB b.length ++ b) ++ more)) by unfold frameB; simp [List.append_assoc]]
    exact this
  generalize burstB (frameB b ++ more) k v 32 = x at *
  unfold firstB
  rw [if_neg (by omega), htold, htake, if_neg (fun h => h.elim (fun h => h ⟨h1, h2⟩) (fun h => h rfl)), if_neg (by omega), if_pos hill]
end Go.Proofs.Ytdjlhdeejpndcaa

/-
  Frames one behind the other: what is found of them. No program in sight.
-/
namespace Go.Proofs.Ytdjlhdeejpndcaa

/-- Is it a body? -/
def Good (b : List UInt8) : Prop := 1 ≤ b.length ∧ b.length ≤ 8192
instance (b : List UInt8) : Decidable (Good b) := inferInstanceAs (Decidable (_ ∧ _))
/-- Frames of all bodies among these, one behind the other; where each is. -/
def putL : List (List UInt8) → List UInt8
  | [] => []
  | b :: r => putB b ++ putL r
def itsL : List (List UInt8) → Nat → List (Nat × Nat × List UInt8)
  | [], _ => []
  | b :: r, a => if Good b then (a, b.length + 8, b) :: itsL r (a + (b.length + 8)) else itsL r a
theorem putB_good {b : List UInt8} (h : Good b) : putB b = frameB b := by unfold putB; exact if_pos h
theorem putB_ill {b : List UInt8} (h : ¬ Good b) : putB b = [] := by unfold putB; exact if_neg h
theorem putL_append : ∀ (l r : List (List UInt8)), putL (l ++ r) = putL l ++ putL r
  | [], _ => rfl
  | b :: l, r => by rw [List.cons_append, putL, putL, putL_append l r, List.append_assoc]
theorem itsL_append : ∀ (l r : List (List UInt8)) (a : Nat), itsL (l ++ r) a = itsL l a ++ itsL r (a + (putL l).length)
  | [], _, _ => by simp [itsL, putL]
  | b :: l, r, a => by
    rw [List.cons_append, itsL, itsL, putL, List.length_append]
    by_cases h : Good b
    · rw [if_pos h, if_pos h, itsL_append l r, putB_good h, frameB_length, List.cons_append, Nat.add_assoc]
    · rw [if_neg h, if_neg h, itsL_append l r, putB_ill h, List.length_nil, Nat.zero_add]
theorem itsL_sizes : ∀ (l : List (List UInt8)) (a : Nat) (t : Nat × Nat × List UInt8), t ∈ itsL l a → a ≤ t.1 ∧ t.1 + t.2.1 ≤ a + (putL l).length ∧ 9 ≤ t.2.1
  | [], _, _, h => by cases h
  | b :: l, a, t, h => by
    rw [itsL] at h
    by_cases hb : Good b
    · rw [if_pos hb] at h
      rw [putL, List.length_append, putB_good hb, frameB_length]
      have hg : 1 ≤ b.length := hb.1
      rcases List.mem_cons.1 h with rfl | h
      · dsimp only; omega
      · have := itsL_sizes l _ t h; omega
    · rw [if_neg hb] at h
      rw [putL, putB_ill hb]
      exact itsL_sizes l a t h
theorem itsL_count : ∀ (l : List (List UInt8)) (a : Nat), 9 * (itsL l a).length ≤ (putL l).length
  | [], _ => by simp [itsL, putL]
  | b :: l, a => by
    rw [itsL, putL, List.length_append]
    by_cases hb : Good b
    · rw [if_pos hb, putB_good hb, frameB_length, List.length_cons]
      have := itsL_count l (a + (b.length + 8))
      have hg : 1 ≤ b.length := hb.1
      omega
    · rw [if_neg hb]
      have := itsL_count l a
      omega
theorem putL_size : ∀ (l : List (List UInt8)), (putL l).length ≤ (l.map List.length).sum + 8 * l.length
  | [] => by simp [putL]
  | b :: l => by
    rw [putL, List.length_append, List.map_cons, List.sum_cons, List.length_cons]
    have := putL_size l
    by_cases hb : Good b
    · rw [putB_good hb, frameB_length]; omega
    · rw [putB_ill hb, List.length_nil]; omega

theorem frame_ne (b : List UInt8) (more : List UInt8) : frameB b ++ more ≠ [] := fun h => by
  have := congrArg List.length h
  rw [List.length_append, frameB_length] at this
  simp at this
/-- Of frames, with whatever behind, all are found. -/
theorem all_put : ∀ (l : List (List UInt8)) (more : List UInt8) (a : Nat), allB (putL l ++ more) a = (itsL l a ++ (allB more (a + (putL l).length)).1, (allB more (a + (putL l).length)).2)
  | [], more, a => by simp [putL, itsL]
  | b :: l, more, a => by
    rw [putL, itsL, List.length_append]
    by_cases hb : Good b
    · rw [if_pos hb, putB_good hb, List.append_assoc, allB_got (frame_ne b _) (first_back b (putL l ++ more) hb.1 hb.2), frameB_length, List.drop_left' (frameB_length b), all_put l more, Nat.add_assoc a (b.length + 8)]
      rfl
    · rw [if_neg hb, putB_ill hb, List.nil_append, List.length_nil, Nat.zero_add]
      exact all_put l more a
theorem all_put0 (l : List (List UInt8)) : allB (putL l) 0 = (itsL l 0, 0, (putL l).length, 0) := by
  have := all_put l [] 0
  rw [List.append_nil, Nat.zero_add] at this
  rw [this, allB_nil, List.append_nil]

/-- Where one that is found begins it is the next one. -/
theorem its_at : ∀ (l : List (List UInt8)) (a i : Nat) (t : Nat × Nat × List UInt8), (itsL l a)[i]? = some t →
    ∃ more, Good t.2.2 ∧ t.2.1 = t.2.2.length + 8 ∧ (putL l).drop (t.1 - a) = frameB t.2.2 ++ more ∧ a ≤ t.1 ∧ t.1 + t.2.1 ≤ a + (putL l).length ∧
      (match (itsL l a)[i + 1]? with | some u => u.1 = t.1 + t.2.1 | none => more = [] ∧ t.1 + t.2.1 = a + (putL l).length)
  | [], _, _, _, h => by simp [itsL] at h
  | b :: l, a, i, t, h => by
    rw [itsL] at h ⊢
    rw [putL, List.length_append]
    by_cases hb : Good b
    · rw [if_pos hb] at h ⊢
      rw [putB_good hb, frameB_length]
      cases i with
      | zero =>
        simp only [List.getElem?_cons_zero, Option.some.injEq] at h
        subst h
        refine ⟨putL l, hb, rfl, by simp, by dsimp only; omega, by dsimp only; omega, ?_⟩
        rw [List.getElem?_cons_succ]
        rcases hl : itsL l (a + (b.length + 8)) with _ | ⟨u, r⟩
        · simp only [List.getElem?_nil]
          have : putL l = [] := its_none l _ hl
          rw [this]
          exact ⟨rfl, by simp⟩
        · simp only [List.getElem?_cons_zero]
          exact its_first l _ _ _ hl
      | succ i =>
        rw [List.getElem?_cons_succ] at h
        obtain ⟨more, h1, h2, h3, h4, h5, h6⟩ := its_at l _ i t h
        refine ⟨more, h1, h2, ?_, by omega, by omega, ?_⟩
        · rw [← h3, List.drop_append, frameB_length, List.drop_of_length_le (by rw [frameB_length]; omega), List.nil_append]
          congr 1
          omega
        · rw [List.getElem?_cons_succ]
          revert h6
          cases (itsL l (a + (b.length + 8)))[i + 1]? with
          | some u => exact fun h => h
          | none => exact fun h => ⟨h.1, by omega⟩
    · rw [if_neg hb] at h ⊢
      rw [putB_ill hb, List.nil_append, List.length_nil, Nat.zero_add]
      exact its_at l a i t h
where
  its_none : ∀ (l : List (List UInt8)) (a : Nat), itsL l a = [] → putL l = []
  | [], _, _ => rfl
  | b :: l, a, h => by
    rw [itsL] at h
    by_cases hb : Good b
    · rw [if_pos hb] at h; cases h
    · rw [if_neg hb] at h
      rw [putL, putB_ill hb, its_none l a h]; rfl
  its_first : ∀ (l : List (List UInt8)) (a : Nat) (u : Nat × Nat × List UInt8) (r : List (Nat × Nat × List UInt8)), itsL l a = u :: r → u.1 = a
  | [], _, _, _, h => by cases h
  | b :: l, a, u, r, h => by
    rw [itsL] at h
    by_cases hb : Good b
    · rw [if_pos hb] at h; cases h; rfl
    · rw [if_neg hb] at h; exact its_first l a u r h
theorem next_at {l : List (List UInt8)} {i : Nat} {t : Nat × Nat × List UInt8} (h : (itsL l 0)[i]? = some t) : nextB ((putL l).drop t.1) t.1 = (t, 0, t.1 + t.2.1, 0) := by
  obtain ⟨more, h1, h2, h3, -, -, -⟩ := its_at l 0 i t h
  rw [Nat.sub_zero] at h3
  obtain ⟨x, y, z⟩ := t
  dsimp only at h1 h2 h3 ⊢
  rw [h3, nextB_got (frame_ne _ _) (first_back z more h1.1 h1.2), ← h2]
end Go.Proofs.Ytdjlhdeejpndcaa
