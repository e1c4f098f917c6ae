/-
  A heap in a list, plainly: what goes up, what goes down, what is taken. No program in sight.
-/
import Derived.Sort.Statements
namespace Go.Proofs.Ytnnkioekjobbmaa
open Go.Sort
set_option linter.unusedVariables false
variable {α : Type} [Inhabited α]

/-- Two places changed for each other. -/
def swp (l : List α) (i j : Nat) : List α := (l.set i l[j]!).set j l[i]!
theorem swp_length (l : List α) (i j : Nat) : (swp l i j).length = l.length := by simp [swp]
theorem swp_get {l : List α} {i j : Nat} (hi : i < l.length) (hj : j < l.length) (c : Nat) : (swp l i j)[c]! = if c = j then l[i]! else if c = i then l[j]! else l[c]! := by
  unfold swp
  by_cases hc : c < l.length
  · rw [getElem!_pos _ c (by simpa using hc), List.getElem_set, List.getElem_set]
    by_cases h1 : c = j
    · subst h1; simp
    · rw [if_neg h1, if_neg fun e => h1 e.symm]
      by_cases h2 : c = i
      · subst h2; simp
      · rw [if_neg h2, if_neg fun e => h2 e.symm, getElem!_pos l c hc]
  · rw [getElem!_neg _ c (by simpa using hc), if_neg (by omega), if_neg (by omega), getElem!_neg l c hc]
theorem swp_perm {l : List α} {i j : Nat} (hi : i < l.length) (hj : j < l.length) : (swp l i j).Perm l := by
  have h := Array.swap_perm (xs := l.toArray) (i := i) (j := j) (by simpa using hi) (by simpa using hj)
  have h2 := Array.perm_iff_toList_perm.1 h
  rw [Array.toList_swap] at h2
  unfold swp
  rw [getElem!_pos l j hj, getElem!_pos l i hi]
  simpa using h2
theorem list_ext! {a b : List α} (hl : a.length = b.length) (h : ∀ c, c < a.length → a[c]! = b[c]!) : a = b := by
  refine List.ext_getElem hl fun c h1 h2 => ?_
  have := h c h1
  rwa [getElem!_pos a c h1, getElem!_pos b c h2] at this

section
variable (lt : α → α → Bool)
/-- No child ahead of its parent. -/
def IsHeap (n : Nat) (l : List α) : Prop := ∀ c, 0 < c → c < n → lt l[c]! l[(c - 1) / 2]! = false
def UpInv (j : Nat) (l : List α) : Prop := j < l.length ∧ (∀ c, 0 < c → c < l.length → c ≠ j → lt l[c]! l[(c - 1) / 2]! = false) ∧ ∀ c, 0 < c → c < l.length → (c - 1) / 2 = j → 0 < j → lt l[c]! l[(j - 1) / 2]! = false
def DownInv (n i : Nat) (l : List α) : Prop := (∀ c, 0 < c → c < n → (c - 1) / 2 ≠ i → lt l[c]! l[(c - 1) / 2]! = false) ∧ ∀ c, 0 < c → c < n → (c - 1) / 2 = i → 0 < i → lt l[c]! l[(i - 1) / 2]! = false
end
variable {lt : α → α → Bool}
omit [Inhabited α] in
theorem le_of_lt (S : SWO lt) {x y : α} (h : lt x y = true) : lt y x = false := by
  cases h2 : lt y x with
  | false => rfl
  | true => have := S.trans _ _ _ h h2; rw [S.irrefl] at this; cases this
theorem up_start {l : List α} (x : α) (h : IsHeap lt l.length l) : UpInv lt l.length (l ++ [x]) := by
  refine ⟨by simp, fun c h0 hc hn => ?_, fun c h0 hc hp _ => ?_⟩
  · have hc' : c < l.length := by simp at hc; omega
    rw [getElem!_pos (l ++ [x]) c hc, getElem!_pos (l ++ [x]) _ (by simp; omega), List.getElem_append_left hc', List.getElem_append_left (by omega)]
    have := h c h0 hc'
    rwa [getElem!_pos l c hc', getElem!_pos l _ (by omega)] at this
  · simp at hc; omega
theorem up_end {l : List α} {j : Nat} (h : UpInv lt j l) (hj : j = 0 ∨ lt l[j]! l[(j - 1) / 2]! = false) : IsHeap lt l.length l := by
  intro c h0 hc
  by_cases e : c = j
  · subst e
    rcases hj with hj | hj
    · omega
    · exact hj
  · exact h.2.1 c h0 hc e
theorem up_step (S : SWO lt) {l : List α} {j : Nat} (h : UpInv lt j l) (h0 : 0 < j) (hj : lt l[j]! l[(j - 1) / 2]! = true) : UpInv lt ((j - 1) / 2) (swp l ((j - 1) / 2) j) := by
  obtain ⟨hl, ha, hb⟩ := h
  obtain ⟨i, hi⟩ : ∃ i, (j - 1) / 2 = i := ⟨_, rfl⟩
  rw [hi] at hj ⊢
  have hil : i < l.length := by omega
  have hle := le_of_lt S hj
  refine ⟨by rw [swp_length]; exact hil, fun c hc hcl hn => ?_, fun c hc hcl hp h0i => ?_⟩
  · rw [swp_length] at hcl
    rw [swp_get hil hl, swp_get hil hl]
    by_cases e1 : c = j
    · subst e1
      rw [if_pos rfl, hi, if_neg (by omega), if_pos rfl]
      exact hle
    · rw [if_neg e1, if_neg hn]
      by_cases e2 : (c - 1) / 2 = j
      · rw [if_pos e2]
        have := hb c hc hcl e2 h0
        rwa [hi] at this
      · rw [if_neg e2]
        by_cases e3 : (c - 1) / 2 = i
        · rw [if_pos e3]
          have := ha c hc hcl e1
          rw [e3] at this
          exact S.ntrans _ _ _ this hle
        · rw [if_neg e3]
          exact ha c hc hcl e1
  · rw [swp_length] at hcl
    rw [swp_get hil hl, swp_get hil hl, if_neg (show ¬ (i - 1) / 2 = j by omega), if_neg (show ¬ (i - 1) / 2 = i by omega)]
    by_cases e1 : c = j
    · rw [if_pos e1]
      exact ha i h0i hil (by omega)
    · rw [if_neg e1, if_neg (show ¬ c = i by omega)]
      have h1 := ha c hc hcl e1
      rw [hp] at h1
      exact S.ntrans _ _ _ h1 (ha i h0i hil (by omega))
theorem heap_min (S : SWO lt) {n : Nat} {l : List α} (h : IsHeap lt n l) : ∀ c, c < n → lt l[c]! l[0]! = false := by
  intro c
  induction c using Nat.strongRecOn with
  | ind c ih =>
    intro hc
    by_cases e : c = 0
    · subst e; exact S.irrefl _
    · exact S.ntrans _ _ _ (h c (by omega) hc) (ih ((c - 1) / 2) (by omega) (by omega))
theorem down_start {l : List α} {n : Nat} (h : IsHeap lt (n + 1) l) (hl : l.length = n + 1) : DownInv lt n 0 (swp l 0 n) := by
  refine ⟨fun c hc hn hp => ?_, fun c _ _ _ h0 => by omega⟩
  rw [swp_get (by omega) (by omega), swp_get (by omega) (by omega), if_neg (by omega), if_neg (by omega), if_neg (by omega), if_neg hp]
  exact h c hc (by omega)
theorem down_leaf {l : List α} {n i : Nat} (h : DownInv lt n i l) (hn : n ≤ 2 * i + 1) : IsHeap lt n l := fun c hc hcn => h.1 c hc hcn (by omega)
/-- The child j (of i) that isn't behind the other one isn't ahead of i. -/
theorem down_end (S : SWO lt) {l : List α} {n i j : Nat} (h : DownInv lt n i l) (hj : (j - 1) / 2 = i) (h0 : 0 < j) (hmin : ∀ c, 0 < c → c < n → (c - 1) / 2 = i → lt l[c]! l[j]! = false) (hlt : lt l[j]! l[i]! = false) : IsHeap lt n l := by
  intro c hc hcn
  by_cases e : (c - 1) / 2 = i
  · rw [e]
    exact S.ntrans _ _ _ (hmin c hc hcn e) hlt
  · exact h.1 c hc hcn e
theorem down_step (S : SWO lt) {l : List α} {n i j : Nat} (h : DownInv lt n i l) (hn : n ≤ l.length) (hj : (j - 1) / 2 = i) (h0 : 0 < j) (hjn : j < n) (hmin : ∀ c, 0 < c → c < n → (c - 1) / 2 = i → lt l[c]! l[j]! = false) (hlt : lt l[j]! l[i]! = true) : DownInv lt n j (swp l i j) := by
  obtain ⟨ha, hb⟩ := h
  have hil : i < l.length := by omega
  have hjl : j < l.length := by omega
  have hle := le_of_lt S hlt
  refine ⟨fun c hc hcn hp => ?_, fun c hc hcn hp _ => ?_⟩
  · rw [swp_get hil hjl, swp_get hil hjl, if_neg hp]
    by_cases e1 : c = j
    · subst e1
      rw [if_pos rfl, if_pos hj]
      exact hle
    · rw [if_neg e1]
      by_cases e2 : c = i
      · subst e2
        rw [if_pos rfl, if_neg (by omega)]
        exact hb j (by omega) hjn hj hc
      · rw [if_neg e2]
        by_cases e3 : (c - 1) / 2 = i
        · rw [if_pos e3]
          exact hmin c hc hcn e3
        · rw [if_neg e3]
          exact ha c hc hcn e3
  · rw [hj, swp_get hil hjl, swp_get hil hjl, if_neg (show ¬ c = j by omega), if_neg (show ¬ c = i by omega), if_neg (show ¬ i = j by omega), if_pos rfl]
    have := ha c hc hcn (by omega)
    rwa [hp] at this
theorem heap_same {n : Nat} {a b : List α} (h : IsHeap lt n a) (he : ∀ c, c < n → b[c]! = a[c]!) : IsHeap lt n b := fun c hc hcn => by
  rw [he c hcn, he _ (by omega)]
  exact h c hc hcn
/-- Behind a Pop: the last one was the first; what is left is a heap. -/
theorem pop_done (S : SWO lt) {l m : List α} {n : Nat} (hl : l.length = n + 1) (h : IsHeap lt (n + 1) l) (hm : m.Perm (swp l 0 n)) (hk : m[n]! = (swp l 0 n)[n]!) (hh : IsHeap lt n m) :
    ∃ x, m = m.take n ++ [x] ∧ l.Perm (x :: m.take n) ∧ IsHeap lt (m.take n).length (m.take n) ∧ ∀ y ∈ m.take n, lt y x = false := by
  have hml : m.length = n + 1 := by rw [hm.length_eq, swp_length, hl]
  have hx : m[n]! = l[0]! := by rw [hk, swp_get (by omega) (by omega), if_pos rfl]
  have hd : m = m.take n ++ [m[n]!] := by
    rw [getElem!_pos m n (by omega), List.take_append_getElem, List.take_of_length_le (by omega)]
  have hp : l.Perm (m[n]! :: m.take n) := by
    have h1 : m.Perm l := hm.trans (swp_perm (by omega) (by omega))
    rw [hd] at h1
    have h2 : (m[n]! :: m.take n).Perm (m.take n ++ [m[n]!]) := (List.perm_append_singleton _ _).symm
    exact (h2.trans h1).symm
  refine ⟨m[n]!, hd, hp, ?_, fun y hy => ?_⟩
  · have hlen : (m.take n).length = n := by rw [List.length_take]; omega
    rw [hlen]
    refine heap_same hh fun c hc => ?_
    rw [getElem!_pos (m.take n) c (by omega), getElem!_pos m c (by omega), List.getElem_take]
  · have hyl : y ∈ l := hp.mem_iff.2 (List.mem_cons_of_mem _ hy)
    obtain ⟨c, hc, rfl⟩ := List.mem_iff_getElem.1 hyl
    have := heap_min S h c (by omega)
    rw [hx]
    rwa [getElem!_pos l c hc] at this
end Go.Proofs.Ytnnkioekjobbmaa
