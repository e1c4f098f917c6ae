/-
  Lists folded in parts; a list folded with itself; a list in two parts; a list and its tombs. Plain.
-/
import Derived.Test.YtnnkioekjobbmaaFdPlain
namespace Go.Proofs.Ytnnkioekjobbmaa
set_option linter.unusedVariables false
set_option linter.unusedSimpArgs false

theorem foldP_is {ls : List (List Ht)} (h : ∀ l ∈ ls, Rising l) {L : List (Nat × Ht)} (hL : Folds (Has ls) L) : foldP ls = L := (fold_all h).uniq hL
theorem has_two (a b : List Ht) (j : Nat) (h : Ht) : Has [a, b] j h ↔ (j = 0 ∧ h ∈ a) ∨ (j = 1 ∧ h ∈ b) := by
  constructor
  · rintro ⟨l, hl, hh⟩
    match j with
    | 0 => simp at hl; subst hl; exact .inl ⟨rfl, hh⟩
    | 1 => simp at hl; subst hl; exact .inr ⟨rfl, hh⟩
    | j + 2 => simp at hl
  · rintro (⟨rfl, h1⟩ | ⟨rfl, h1⟩)
    · exact ⟨a, rfl, h1⟩
    · exact ⟨b, rfl, h1⟩
theorem has_take {ls : List (List Ht)} {k i : Nat} {h : Ht} : Has (ls.take k) i h ↔ i < k ∧ Has ls i h := by
  unfold Has
  rw [List.getElem?_take]
  by_cases e : i < k
  · rw [if_pos e]; simp [e]
  · rw [if_neg e]; simp [e]
theorem has_drop {ls : List (List Ht)} {k i : Nat} {h : Ht} : Has (ls.drop k) i h ↔ Has ls (k + i) h := by
  unfold Has
  rw [List.getElem?_drop]
theorem Has.lt {ls : List (List Ht)} {i : Nat} {h : Ht} (q : Has ls i h) : i < ls.length := by
  obtain ⟨l, hl, _⟩ := q
  exact (List.getElem?_eq_some_iff.1 hl).1
theorem rising_of {τ : Type} {L : List (τ × Ht)} (h : Sorted L) : Rising (L.map fun p => p.2) := List.pairwise_map.2 h
theorem sorted_map {τ σ : Type} {L : List (τ × Ht)} (h : Sorted L) (f : τ × Ht → σ) : Sorted (L.map fun p => (f p, p.2)) := List.pairwise_map.2 h
theorem take_up {ls : List (List Ht)} (h : ∀ l ∈ ls, Rising l) (k : Nat) : ∀ l ∈ ls.take k, Rising l := fun l hl => h l (List.mem_of_mem_take hl)
theorem drop_up {ls : List (List Ht)} (h : ∀ l ∈ ls, Rising l) (k : Nat) : ∀ l ∈ ls.drop k, Rising l := fun l hl => h l (List.mem_of_mem_drop hl)
/-- Which part it is. -/
def partOf (k : Nat) (p : Nat × Ht) : Nat := if k ≤ p.1 then 1 else 0
theorem parts_fold {ls : List (List Ht)} (h : ∀ l ∈ ls, Rising l) (k : Nat) :
    foldP [(foldP (ls.take k)).map fun p => p.2, (foldP (ls.drop k)).map fun p => p.2] = (foldP ls).map fun p => (partOf k p, p.2) := by
  have hT := fold_all h
  have hA := fold_all (take_up h k)
  have hB := fold_all (drop_up h k)
  have mA : ∀ g, g ∈ (foldP (ls.take k)).map (fun p => p.2) ↔ ∃ i, (i, g) ∈ foldP (ls.take k) := fun g => by
    rw [List.mem_map]
    constructor
    · rintro ⟨⟨i, x⟩, hx, rfl⟩; exact ⟨i, hx⟩
    · rintro ⟨i, hx⟩; exact ⟨(i, g), hx, rfl⟩
  have mB : ∀ g, g ∈ (foldP (ls.drop k)).map (fun p => p.2) ↔ ∃ i, (i, g) ∈ foldP (ls.drop k) := fun g => by
    rw [List.mem_map]
    constructor
    · rintro ⟨⟨i, x⟩, hx, rfl⟩; exact ⟨i, hx⟩
    · rintro ⟨i, hx⟩; exact ⟨(i, g), hx, rfl⟩
  refine foldP_is (fun l hl => ?_) ⟨sorted_map hT.rise _, fun j g => ?_⟩
  · simp only [List.mem_cons, List.not_mem_nil, or_false] at hl
    rcases hl with rfl | rfl
    · exact rising_of hA.rise
    · exact rising_of hB.rise
  rw [List.mem_map]
  constructor
  · rintro ⟨⟨i, x⟩, hx, e⟩
    obtain ⟨e1, e2⟩ := Prod.mk.inj e
    dsimp only at e1 e2
    subst e1 e2
    obtain ⟨h1, h2⟩ := (hT.iff i x).1 hx
    by_cases hk : k ≤ i
    · have hp : partOf k (i, x) = 1 := if_pos hk
      rw [hp]
      refine ⟨(has_two _ _ _ _).2 (.inr ⟨rfl, (mB x).2 ⟨i - k, (hB.iff _ _).2 ⟨has_drop.2 (by rwa [show k + (i - k) = i by omega]), fun j g hj hg => ?_⟩⟩⟩), fun j g hj hg => ?_⟩
      · have := h2 _ g (has_drop.1 hj) hg
        omega
      · rcases (has_two _ _ _ _).1 hj with ⟨rfl, _⟩ | ⟨rfl, _⟩ <;> omega
    · have hp : partOf k (i, x) = 0 := if_neg hk
      rw [hp]
      refine ⟨(has_two _ _ _ _).2 (.inl ⟨rfl, (mA x).2 ⟨i, (hA.iff _ _).2 ⟨has_take.2 ⟨by omega, h1⟩, fun j g hj hg => h2 j g (has_take.1 hj).2 hg⟩⟩⟩), fun j g hj hg => ?_⟩
      rcases (has_two _ _ _ _).1 hj with ⟨rfl, _⟩ | ⟨rfl, hq⟩
      · omega
      · obtain ⟨i', hi'⟩ := (mB g).1 hq
        have := h2 _ g (has_drop.1 ((hB.iff _ _).1 hi').1) hg
        omega
  · rintro ⟨h1, h2⟩
    rcases (has_two _ _ _ _).1 h1 with ⟨rfl, hq⟩ | ⟨rfl, hq⟩
    · obtain ⟨i, hi⟩ := (mA g).1 hq
      obtain ⟨q1, q2⟩ := (hA.iff _ _).1 hi
      have q3 := has_take.1 q1
      refine ⟨(i, g), (hT.iff _ _).2 ⟨q3.2, fun m x hm hx => ?_⟩, by rw [show partOf k (i, g) = 0 from if_neg (by show ¬ k ≤ i; omega)]⟩
      by_cases hmk : m < k
      · exact q2 m x (has_take.2 ⟨hmk, hm⟩) hx
      · exfalso
        obtain ⟨p, hp, he⟩ := hB.told (N := ls.length) (fun j y hj => by have := (has_drop.1 hj).lt; omega) ls.length (m - k) x (by omega) (has_drop.2 (by rwa [show k + (m - k) = m by omega]))
        have := h2 1 p.2 ((has_two _ _ _ _).2 (.inr ⟨rfl, (mB p.2).2 ⟨p.1, hp⟩⟩)) (he.trans hx)
        omega
    · obtain ⟨i, hi⟩ := (mB g).1 hq
      obtain ⟨q1, q2⟩ := (hB.iff _ _).1 hi
      refine ⟨(k + i, g), (hT.iff _ _).2 ⟨has_drop.1 q1, fun m x hm hx => ?_⟩, by rw [show partOf k (k + i, g) = 1 from if_pos (by show k ≤ k + i; omega)]⟩
      by_cases hmk : m < k
      · omega
      · have := q2 (m - k) x (has_drop.2 (by rwa [show k + (m - k) = m by omega])) hx
        omega
theorem has_same {l : List Ht} {n i : Nat} {h : Ht} : Has (List.replicate n l) i h ↔ i < n ∧ h ∈ l := by
  unfold Has
  constructor
  · rintro ⟨x, hx, hh⟩
    rw [List.getElem?_replicate] at hx
    split at hx
    · injection hx with hx
      subst hx
      exact ⟨by assumption, hh⟩
    · cases hx
  · rintro ⟨h1, h2⟩
    exact ⟨l, by rw [List.getElem?_replicate, if_pos h1], h2⟩
theorem sorted_tag {τ : Type} (t : τ) {l : List Ht} (h : Rising l) : Sorted (l.map fun x => (t, x)) := List.pairwise_map.2 h
theorem mem_tag {τ : Type} (t s : τ) (l : List Ht) (h : Ht) : (s, h) ∈ l.map (fun x => (t, x)) ↔ s = t ∧ h ∈ l := by
  rw [List.mem_map]
  constructor
  · rintro ⟨x, hx, e⟩
    obtain ⟨rfl, rfl⟩ := Prod.mk.inj e
    exact ⟨rfl, hx⟩
  · rintro ⟨rfl, hx⟩
    exact ⟨h, hx, rfl⟩
theorem tag_folds {M : Nat → Ht → Prop} {r : Nat} {l : List Ht} (h : Rising l) (hM : ∀ i x, M i x → i ≤ r ∧ ∃ y ∈ l, y.key = x.key) (hr : ∀ x, M r x ↔ x ∈ l) : Folds M (l.map fun x => (r, x)) := by
  refine ⟨sorted_tag r h, fun i x => ?_⟩
  rw [mem_tag]
  constructor
  · rintro ⟨rfl, hx⟩
    exact ⟨(hr x).2 hx, fun j g hj _ => (hM j g hj).1⟩
  · rintro ⟨h1, h2⟩
    obtain ⟨y, hy, he⟩ := (hM i x h1).2
    have h3 := h2 r y ((hr y).2 hy) he
    have h4 := (hM i x h1).1
    obtain rfl : i = r := by omega
    exact ⟨rfl, (hr x).1 h1⟩
theorem same_fold {l : List Ht} (h : Rising l) (r : Nat) : foldP (List.replicate (r + 1) l) = l.map fun x => (r, x) := by
  refine foldP_is (fun x hx => by rw [(List.mem_replicate.1 hx).2]; exact h) (tag_folds h (fun i x q => ?_) fun x => ?_)
  · obtain ⟨h1, h2⟩ := has_same.1 q
    exact ⟨by omega, x, h2, rfl⟩
  · rw [has_same]
    exact ⟨fun q => q.2, fun q => ⟨by omega, q⟩⟩
theorem has_more {ls : List (List Ht)} {i : Nat} {h : Ht} : Has (ls ++ [[]]) i h ↔ Has ls i h := by
  unfold Has
  constructor
  · rintro ⟨x, hx, hh⟩
    by_cases hi : i < ls.length
    · rw [List.getElem?_append_left hi] at hx
      exact ⟨x, hx, hh⟩
    · rw [List.getElem?_append_right (by omega)] at hx
      have : x = [] := by
        match e : i - ls.length with
        | 0 => rw [e] at hx; simp at hx; exact hx.symm ▸ rfl
        | j + 1 => rw [e] at hx; simp at hx
      subst this
      cases hh
  · rintro ⟨x, hx, hh⟩
    exact ⟨x, by rw [List.getElem?_append_left (List.getElem?_eq_some_iff.1 hx).1]; exact hx, hh⟩
theorem same_fold2 {l : List Ht} (h : Rising l) (r : Nat) : foldP (List.replicate (r + 1) l ++ [[]]) = l.map fun x => (r, x) := by
  refine foldP_is (fun x hx => ?_) (tag_folds h (fun i x q => ?_) fun x => ?_)
  · rcases List.mem_append.1 hx with hx | hx
    · rw [(List.mem_replicate.1 hx).2]; exact h
    · rw [List.mem_singleton.1 hx]; exact List.Pairwise.nil
  · obtain ⟨h1, h2⟩ := has_same.1 (has_more.1 q)
    exact ⟨by omega, x, h2, rfl⟩
  · rw [has_more, has_same]
    exact ⟨fun q => q.2, fun q => ⟨by omega, q⟩⟩
theorem apart_fold {l : List Ht} (h : Rising l) (k : Nat) : foldP [l.take k, l.drop k] = (l.take k).map (fun x => (0, x)) ++ (l.drop k).map fun x => (1, x) := by
  have h1 : Rising (l.take k) := List.Pairwise.sublist (List.take_sublist _ _) h
  have h2 : Rising (l.drop k) := List.Pairwise.sublist (List.drop_sublist _ _) h
  have hx : ∀ x ∈ l.take k, ∀ y ∈ l.drop k, bytesBefore x.key y.key = true := by
    have h3 := h
    rw [← List.take_append_drop k l] at h3
    exact (List.pairwise_append.1 h3).2.2
  refine foldP_is (fun x hx => ?_) ⟨?_, fun j g => ?_⟩
  · simp only [List.mem_cons, List.not_mem_nil, or_false] at hx
    rcases hx with rfl | rfl
    · exact h1
    · exact h2
  · refine List.pairwise_append.2 ⟨sorted_tag 0 h1, sorted_tag 1 h2, fun a ha b hb => ?_⟩
    obtain ⟨x, hxa, rfl⟩ := List.mem_map.1 ha
    obtain ⟨y, hyb, rfl⟩ := List.mem_map.1 hb
    exact hx x hxa y hyb
  · rw [List.mem_append, mem_tag, mem_tag, has_two]
    constructor
    · rintro (⟨rfl, hg⟩ | ⟨rfl, hg⟩)
      · refine ⟨.inl ⟨rfl, hg⟩, fun j x hj e => ?_⟩
        rcases (has_two _ _ _ _).1 hj with ⟨rfl, _⟩ | ⟨rfl, hq⟩
        · omega
        · exact absurd e.symm (fbef_ne (hx g hg x hq))
      · refine ⟨.inr ⟨rfl, hg⟩, fun j x hj e => ?_⟩
        rcases (has_two _ _ _ _).1 hj with ⟨rfl, _⟩ | ⟨rfl, _⟩ <;> omega
    · rintro ⟨q, _⟩
      exact q
/-- A hint of a key's end. -/
def tombP (x : Ht) : Ht := ⟨4, x.key, x.at_, x.size⟩
theorem tomb_up {l : List Ht} (h : Rising l) : Rising (l.map tombP) := List.pairwise_map.2 h
theorem tomb_fold {l : List Ht} (h : Rising l) : foldP [l, l.map tombP] = (l.map tombP).map fun x => (1, x) := by
  refine foldP_is (fun x hx => ?_) (tag_folds (tomb_up h) (fun i x q => ?_) fun x => ?_)
  · simp only [List.mem_cons, List.not_mem_nil, or_false] at hx
    rcases hx with rfl | rfl
    · exact h
    · exact tomb_up h
  · rcases (has_two _ _ _ _).1 q with ⟨rfl, hq⟩ | ⟨rfl, hq⟩
    · exact ⟨by omega, tombP x, List.mem_map.2 ⟨x, hq, rfl⟩, rfl⟩
    · exact ⟨Nat.le_refl _, x, hq, rfl⟩
  · rw [has_two]
    constructor
    · rintro (⟨h1, _⟩ | ⟨_, h1⟩)
      · omega
      · exact h1
    · exact fun q => .inr ⟨rfl, q⟩
end Go.Proofs.Ytnnkioekjobbmaa
