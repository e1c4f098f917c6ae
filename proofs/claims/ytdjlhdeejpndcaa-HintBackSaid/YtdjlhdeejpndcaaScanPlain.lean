/-
  What stands in bytes, frame behind frame: what comes at each place, what of it is found, and the next one. No program in sight.
-/
import Derived.Test.YtdjlhdeejpndcaaML
namespace Go.Proofs.Ytdjlhdeejpndcaa

theorem first_size {bs y : List UInt8} {k e : Nat} (h : firstB bs = (y, k, e)) : (k = 0 ∨ 9 ≤ k ∧ k ≤ bs.length) ∧ (e = 0 → 9 ≤ k) ∧ (e ≠ 0 → y = []) := by
  by_cases he : e = 0
  · subst he
    have := first_got h
    exact ⟨.inr ⟨this.1, this.2.1⟩, fun _ => this.1, fun h => absurd rfl h⟩
  · have := first_ill h he
    refine ⟨?_, fun h => absurd h he, fun _ => this.1⟩
    rcases this.2 with h | h
    · exact .inl h
    · exact .inr h.2
theorem first_err (bs : List UInt8) : (firstB bs).2.2 = 0 ∨ (firstB bs).2.2 = 21 ∨ (firstB bs).2.2 = 22 := by
  unfold firstB
  split
  · exact .inr (.inl rfl)
  split
  · exact .inr (.inr rfl)
  split
  · exact .inr (.inl rfl)
  split
  · exact .inr (.inr rfl)
  · exact .inl rfl

/-- What comes at a place: where, how long, the body, what is wrong. -/
abbrev Ev := Nat × Nat × List UInt8 × Nat
def evF : Nat → List UInt8 → Nat → List Ev
  | 0, _, _ => []
  | f + 1, bs, at_ => if bs = [] then [] else (at_, (firstB bs).2.1, (firstB bs).1, (firstB bs).2.2) :: if (firstB bs).2.1 = 0 then [] else evF f (bs.drop (firstB bs).2.1) (at_ + (firstB bs).2.1)
theorem evF_enough : ∀ (N f : Nat) (bs : List UInt8) (a : Nat), bs.length ≤ N → bs.length ≤ f → evF f bs a = evF bs.length bs a
  | 0, f, bs, a, hN, _ => by
    have hb : bs = [] := List.eq_nil_of_length_eq_zero (by omega)
    subst hb
    cases f <;> simp [evF]
  | N + 1, f, bs, a, hN, hf => by
    by_cases hb : bs = []
    · subst hb
      cases f <;> simp [evF]
    · have hl : 0 < bs.length := List.length_pos_iff.2 hb
      obtain ⟨m, hm⟩ : ∃ m, bs.length = m + 1 := ⟨bs.length - 1, by omega⟩
      obtain ⟨g, rfl⟩ : ∃ g, f = g + 1 := ⟨f - 1, by omega⟩
      rw [hm]
      unfold evF
      rw [if_neg hb, if_neg hb]
      obtain ⟨hk, _⟩ := first_size (bs := bs) (y := (firstB bs).1) (k := (firstB bs).2.1) (e := (firstB bs).2.2) rfl
      generalize (firstB bs).2.1 = k at *
      by_cases hk0 : k = 0
      · rw [if_pos hk0, if_pos hk0]
      · rw [if_neg hk0, if_neg hk0, evF_enough N g _ _ (by rw [List.length_drop]; omega) (by rw [List.length_drop]; omega), evF_enough N m _ _ (by rw [List.length_drop]; omega) (by rw [List.length_drop]; omega)]
/-- All that comes, from a place on. -/
def evB (bs : List UInt8) (a : Nat) : List Ev := evF bs.length bs a
theorem evB_nil (a : Nat) : evB [] a = [] := rfl
theorem evB_cons {bs y : List UInt8} {k e : Nat} (hb : bs ≠ []) (h : firstB bs = (y, k, e)) (a : Nat) : evB bs a = (a, k, y, e) :: if k = 0 then [] else evB (bs.drop k) (a + k) := by
  have hl : 0 < bs.length := List.length_pos_iff.2 hb
  obtain ⟨m, hm⟩ : ∃ m, bs.length = m + 1 := ⟨bs.length - 1, by omega⟩
  obtain ⟨hk, _⟩ := first_size h
  unfold evB
  rw [hm]
  conv => lhs; unfold evF
  rw [if_neg hb, h]
  dsimp only
  by_cases hk0 : k = 0
  · rw [if_pos hk0, if_pos hk0]
  · rw [if_neg hk0, if_neg hk0, evF_enough m m _ _ (by rw [List.length_drop]; omega) (by rw [List.length_drop]; omega)]

/-- What is found of it: all bodies, how many were passed by, where it ends, what is wrong. -/
def allE : List Ev → Nat → List (Nat × Nat × List UInt8) × Nat × Nat × Nat
  | [], a => ([], 0, a, 0)
  | (a, k, y, e) :: r, _ => if e = 0 then ((a, k, y) :: (allE r (a + k)).1, (allE r (a + k)).2) else if k = 0 then ([], 0, a, e) else ((allE r (a + k)).1, (allE r (a + k)).2.1 + 1, (allE r (a + k)).2.2)
def allB (bs : List UInt8) (a : Nat) : List (Nat × Nat × List UInt8) × Nat × Nat × Nat := allE (evB bs a) a
/-- The next one: the item, how many were passed by, where it ends, what is wrong. -/
def nextE : List Ev → Nat → (Nat × Nat × List UInt8) × Nat × Nat × Nat
  | [], a => ((0, 0, []), 0, a, 0)
  | (a, k, y, e) :: r, _ => if e = 0 then ((a, k, y), 0, a + k, 0) else if k = 0 then ((0, 0, []), 0, a, e) else ((nextE r (a + k)).1, (nextE r (a + k)).2.1 + 1, (nextE r (a + k)).2.2)
def nextB (bs : List UInt8) (a : Nat) : (Nat × Nat × List UInt8) × Nat × Nat × Nat := nextE (evB bs a) a

section
variable {bs y : List UInt8} {k e : Nat}
theorem allB_nil (a : Nat) : allB [] a = ([], 0, a, 0) := rfl
theorem allB_got (hb : bs ≠ []) (h : firstB bs = (y, k, 0)) (a : Nat) : allB bs a = ((a, k, y) :: (allB (bs.drop k) (a + k)).1, (allB (bs.drop k) (a + k)).2) := by
  have hk := (first_size h).2.1 rfl
  unfold allB
  rw [evB_cons hb h, allE, if_pos rfl, if_neg (by omega)]
theorem allB_stop (hb : bs ≠ []) (h : firstB bs = (y, 0, e)) (he : e ≠ 0) (a : Nat) : allB bs a = ([], 0, a, e) := by
  unfold allB
  rw [evB_cons hb h, allE, if_neg he, if_pos rfl]
theorem allB_bad (hb : bs ≠ []) (h : firstB bs = (y, k, e)) (he : e ≠ 0) (hk : k ≠ 0) (a : Nat) : allB bs a = ((allB (bs.drop k) (a + k)).1, (allB (bs.drop k) (a + k)).2.1 + 1, (allB (bs.drop k) (a + k)).2.2) := by
  unfold allB
  rw [evB_cons hb h, allE, if_neg he, if_neg hk, if_neg hk]
theorem nextB_nil (a : Nat) : nextB [] a = ((0, 0, []), 0, a, 0) := rfl
theorem nextB_got (hb : bs ≠ []) (h : firstB bs = (y, k, 0)) (a : Nat) : nextB bs a = ((a, k, y), 0, a + k, 0) := by
  unfold nextB
  rw [evB_cons hb h, nextE, if_pos rfl]
theorem nextB_stop (hb : bs ≠ []) (h : firstB bs = (y, 0, e)) (he : e ≠ 0) (a : Nat) : nextB bs a = ((0, 0, []), 0, a, e) := by
  unfold nextB
  rw [evB_cons hb h, nextE, if_neg he, if_pos rfl]
theorem nextB_bad (hb : bs ≠ []) (h : firstB bs = (y, k, e)) (he : e ≠ 0) (hk : k ≠ 0) (a : Nat) : nextB bs a = ((nextB (bs.drop k) (a + k)).1, (nextB (bs.drop k) (a + k)).2.1 + 1, (nextB (bs.drop k) (a + k)).2.2) := by
  unfold nextB
  rw [evB_cons hb h, nextE, if_neg he, if_neg hk, if_neg hk]
end

/-- How the next one begins all. -/
theorem all_next : ∀ (N : Nat) (bs : List UInt8) (a : Nat), bs.length ≤ N →
    (((nextB bs a).1.2.1 = 0 ∧ allB bs a = ([], (nextB bs a).2)) ∨
     (9 ≤ (nextB bs a).1.2.1 ∧ (nextB bs a).2.2.2 = 0 ∧ a + 9 ≤ (nextB bs a).2.2.1 ∧ (nextB bs a).2.2.1 ≤ a + bs.length ∧
        allB bs a = ((nextB bs a).1 :: (allB (bs.drop ((nextB bs a).2.2.1 - a)) (nextB bs a).2.2.1).1, (nextB bs a).2.1 + (allB (bs.drop ((nextB bs a).2.2.1 - a)) (nextB bs a).2.2.1).2.1, (allB (bs.drop ((nextB bs a).2.2.1 - a)) (nextB bs a).2.2.1).2.2)))
  | 0, bs, a, hN => by
    have hb : bs = [] := List.eq_nil_of_length_eq_zero (by omega)
    subst hb
    exact .inl ⟨rfl, rfl⟩
  | N + 1, bs, a, hN => by
    by_cases hb : bs = []
    · subst hb
      exact .inl ⟨rfl, rfl⟩
    obtain ⟨⟨y, k, e⟩, h⟩ : ∃ r, firstB bs = r := ⟨_, rfl⟩
    obtain ⟨hk, hk0, _⟩ := first_size h
    by_cases he : e = 0
    · subst he
      have hk0 := hk0 rfl
      rw [nextB_got hb h, allB_got hb h]
      refine .inr ⟨hk0, rfl, by dsimp only; omega, by dsimp only; omega, ?_⟩
      dsimp only
      rw [Nat.add_sub_cancel_left, Nat.zero_add]
    · by_cases hz : k = 0
      · subst hz
        rw [nextB_stop hb h he, allB_stop hb h he]
        exact .inl ⟨rfl, rfl⟩
      · rw [nextB_bad hb h he hz, allB_bad hb h he hz]
        rcases all_next N (bs.drop k) (a + k) (by rw [List.length_drop]; omega) with ⟨h1, h2⟩ | ⟨h1, h2, h3, h4, h5⟩
        · refine .inl ⟨h1, ?_⟩
          rw [h2]
        · rw [List.length_drop] at h4
          refine .inr ⟨h1, h2, by dsimp only; omega, by dsimp only; omega, ?_⟩
          rw [h5]
          dsimp only
          generalize (nextB (bs.drop k) (a + k)).2.2.1 = q at *
          rw [List.drop_drop, show k + (q - (a + k)) = q - a by omega, Nat.add_right_comm]

theorem next_end : ∀ (N : Nat) (bs : List UInt8) (a : Nat), bs.length ≤ N → a ≤ (nextB bs a).2.2.1 ∧ (nextB bs a).2.2.1 ≤ a + bs.length ∧ (nextB bs a).2.1 + a ≤ (nextB bs a).2.2.1 ∧ (nextB bs a).1.1 ≤ a + bs.length ∧ (nextB bs a).1.2.1 ≤ a + bs.length
  | 0, bs, a, hN => by
    have hb : bs = [] := List.eq_nil_of_length_eq_zero (by omega)
    subst hb
    simp [nextB_nil]
  | N + 1, bs, a, hN => by
    by_cases hb : bs = []
    · subst hb
      simp [nextB_nil]
    obtain ⟨⟨y, k, e⟩, h⟩ : ∃ r, firstB bs = r := ⟨_, rfl⟩
    obtain ⟨hk, hk0, _⟩ := first_size h
    by_cases he : e = 0
    · subst he
      have hk0 := hk0 rfl
      rw [nextB_got hb h]
      dsimp only
      omega
    · by_cases hz : k = 0
      · subst hz
        rw [nextB_stop hb h he]
        dsimp only
        omega
      · rw [nextB_bad hb h he hz]
        have := next_end N (bs.drop k) (a + k) (by rw [List.length_drop]; omega)
        rw [List.length_drop] at this
        dsimp only
        omega
theorem all_end : ∀ (N : Nat) (bs : List UInt8) (a : Nat), bs.length ≤ N → a ≤ (allB bs a).2.2.1 ∧ (allB bs a).2.2.1 ≤ a + bs.length ∧ (allB bs a).2.1 ≤ bs.length ∧ 9 * (allB bs a).1.length ≤ bs.length ∧ ∀ t ∈ (allB bs a).1, t.1 ≤ a + bs.length ∧ t.2.1 ≤ a + bs.length
  | 0, bs, a, hN => by
    have hb : bs = [] := List.eq_nil_of_length_eq_zero (by omega)
    subst hb
    simp [allB_nil]
  | N + 1, bs, a, hN => by
    by_cases hb : bs = []
    · subst hb
      simp [allB_nil]
    obtain ⟨⟨y, k, e⟩, h⟩ : ∃ r, firstB bs = r := ⟨_, rfl⟩
    obtain ⟨hk, hk0, _⟩ := first_size h
    by_cases he : e = 0
    · subst he
      have hk0 := hk0 rfl
      rw [allB_got hb h]
      obtain ⟨h1, h2, h3, h4, h5⟩ := all_end N (bs.drop k) (a + k) (by rw [List.length_drop]; omega)
      rw [List.length_drop] at h2 h3 h4 h5
      dsimp only
      refine ⟨by omega, by omega, by omega, by rw [List.length_cons]; omega, fun t ht => ?_⟩
      rcases List.mem_cons.1 ht with rfl | ht
      · dsimp only; omega
      · have := h5 t ht; omega
    · by_cases hz : k = 0
      · subst hz
        rw [allB_stop hb h he]
        simp
      · rw [allB_bad hb h he hz]
        obtain ⟨h1, h2, h3, h4, h5⟩ := all_end N (bs.drop k) (a + k) (by rw [List.length_drop]; omega)
        rw [List.length_drop] at h2 h3 h4 h5
        dsimp only
        refine ⟨by omega, by omega, by omega, by omega, fun t ht => ?_⟩
        have := h5 t ht; omega

/-! What has come, from the beginning on. -/
/-- Does it go on behind this one? -/
def Goes (x : Ev) : Prop := x.2.2.2 = 0 ∨ x.2.1 ≠ 0
def gotE (l : List Ev) : List (Nat × Nat × List UInt8) := (l.filter fun x => x.2.2.2 == 0).map fun x => (x.1, x.2.1, x.2.2.1)
def badE (l : List Ev) : Nat := (l.filter fun x => x.2.2.2 != 0).length
def endE (a : Nat) : List Ev → Nat
  | [] => a
  | x :: l => endE (x.1 + x.2.1) l
theorem endE_snoc (x : Ev) : ∀ (l : List Ev) (a : Nat), endE a (l ++ [x]) = x.1 + x.2.1
  | [], _ => rfl
  | _ :: l, _ => endE_snoc x l _
theorem gotE_snoc (l : List Ev) (x : Ev) : gotE (l ++ [x]) = gotE l ++ if x.2.2.2 = 0 then [(x.1, x.2.1, x.2.2.1)] else [] := by
  unfold gotE
  rw [List.filter_append, List.map_append]
  by_cases h : x.2.2.2 = 0 <;> simp [h]
theorem badE_snoc (l : List Ev) (x : Ev) : badE (l ++ [x]) = badE l + if x.2.2.2 = 0 then 0 else 1 := by
  unfold badE
  rw [List.filter_append, List.length_append]
  by_cases h : x.2.2.2 = 0 <;> simp [h]
theorem allE_run : ∀ (l r : List Ev) (a : Nat), (∀ x ∈ l, Goes x) → allE (l ++ r) a = (gotE l ++ (allE r (endE a l)).1, badE l + (allE r (endE a l)).2.1, (allE r (endE a l)).2.2)
  | [], r, a, _ => by simp [gotE, badE, endE]
  | (b, k, y, e) :: l, r, a, h => by
    have ih := allE_run l r (b + k) fun x hx => h x (List.mem_cons_of_mem _ hx)
    have h0 : e = 0 ∨ k ≠ 0 := h _ List.mem_cons_self
    rw [List.cons_append, allE, ih]
    by_cases he : e = 0
    · subst he
      simp [gotE, badE, endE]
    · have hk : k ≠ 0 := h0.resolve_left he
      rw [if_neg he, if_neg hk]
      simp [gotE, badE, endE, he, Nat.add_right_comm]
theorem nextE_run : ∀ (l r : List Ev) (a : Nat), (∀ x ∈ l, x.2.2.2 ≠ 0 ∧ x.2.1 ≠ 0) → nextE (l ++ r) a = ((nextE r (endE a l)).1, l.length + (nextE r (endE a l)).2.1, (nextE r (endE a l)).2.2)
  | [], r, a, _ => by simp [endE]
  | (b, k, y, e) :: l, r, a, h => by
    have ih := nextE_run l r (b + k) fun x hx => h x (List.mem_cons_of_mem _ hx)
    obtain ⟨h0, h1⟩ := h _ List.mem_cons_self
    rw [List.cons_append, nextE, ih, if_neg h0, if_neg h1]
    simp [endE, Nat.add_right_comm]
end Go.Proofs.Ytdjlhdeejpndcaa
