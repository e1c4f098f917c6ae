/-
  Hints of many lists, folded, plainly. No program in sight.
-/
import Derived.Test.YtnnkioekjobbmaaSeat
import Derived.Maps.OwnSet
namespace Go.Proofs.Ytnnkioekjobbmaa
set_option linter.unusedVariables false
set_option linter.unusedSimpArgs false

/-! The order of keys. -/
theorem fbef_irrefl : ∀ a : List UInt8, bytesBefore a a = false
  | [] => rfl
  | a :: r => by
    have := fbef_irrefl r
    simp [bytesBefore, this]
theorem fbef_total : ∀ {a b : List UInt8}, bytesBefore a b = false → a ≠ b → bytesBefore b a = true
  | [], [], _, h => absurd rfl h
  | [], _ :: _, h, _ => by simp [bytesBefore] at h
  | _ :: _, [], _, _ => rfl
  | x :: r, y :: s, h, hne => by
    simp only [bytesBefore, Bool.or_eq_false_iff, decide_eq_false_iff_not, Bool.and_eq_false_iff, beq_eq_false_iff_ne] at h
    simp only [bytesBefore, Bool.or_eq_true, decide_eq_true_eq, Bool.and_eq_true, beq_iff_eq]
    obtain ⟨h1, h2⟩ := h
    by_cases hxy : x = y
    · subst hxy
      refine .inr ⟨rfl, fbef_total (h2.resolve_left fun h => h rfl) fun e => hne (by rw [e])⟩
    · refine .inl ?_
      have h3 : ¬ x.toNat < y.toNat := h1
      have h4 : x.toNat ≠ y.toNat := fun e => hxy (UInt8.toNat_inj.1 e)
      show y.toNat < x.toNat
      omega
theorem fbef_trans : ∀ {a b c : List UInt8}, bytesBefore a b = true → bytesBefore b c = true → bytesBefore a c = true
  | [], [], _, h, _ => by simp [bytesBefore] at h
  | [], _ :: _, [], _, h => by simp [bytesBefore] at h
  | [], _ :: _, _ :: _, _, _ => rfl
  | _ :: _, [], _, h, _ => by simp [bytesBefore] at h
  | _ :: _, _ :: _, [], _, h => by simp [bytesBefore] at h
  | x :: r, y :: s, z :: t, h, k => by
    simp only [bytesBefore, Bool.or_eq_true, decide_eq_true_eq, Bool.and_eq_true, beq_iff_eq] at h k ⊢
    rcases h with h | ⟨rfl, h⟩
    · rcases k with k | ⟨rfl, k⟩
      · left
        have h3 : x.toNat < y.toNat := h
        have h4 : y.toNat < z.toNat := k
        show x.toNat < z.toNat
        omega
      · exact .inl h
    · rcases k with k | ⟨rfl, k⟩
      · exact .inl k
      · exact .inr ⟨rfl, fbef_trans h k⟩
theorem fbef_asymm {a b : List UInt8} (h : bytesBefore a b = true) : bytesBefore b a = false := by
  rcases hb : bytesBefore b a with _ | _
  · rfl
  · have := fbef_trans h hb
    rw [fbef_irrefl] at this
    cases this
theorem fbef_ne {a b : List UInt8} (h : bytesBefore a b = true) : a ≠ b := fun e => by subst e; rw [fbef_irrefl] at h; cases h

/-- A hint. -/
structure Ht where
  kind : Int
  key : List UInt8
  at_ : Int
  size : Int
deriving DecidableEq
instance : Inhabited Ht := ⟨⟨0, [], 0, 0⟩⟩
/-- Keys rise. -/
def Rising (l : List Ht) : Prop := l.Pairwise fun x y => bytesBefore x.key y.key = true
def upB : List Ht → Bool
  | [] => true
  | [_] => true
  | x :: y :: r => bytesBefore x.key y.key && upB (y :: r)
theorem upB_rising : ∀ l : List Ht, upB l = true ↔ Rising l
  | [] => ⟨fun _ => List.Pairwise.nil, fun _ => rfl⟩
  | [x] => ⟨fun _ => List.pairwise_singleton _ _, fun _ => rfl⟩
  | x :: y :: r => by
    have ih := upB_rising (y :: r)
    rw [upB, Bool.and_eq_true, ih]
    unfold Rising
    rw [List.pairwise_cons (a := x)]
    constructor
    · rintro ⟨h1, h2⟩
      refine ⟨fun z hz => ?_, h2⟩
      rcases List.mem_cons.1 hz with rfl | hz
      · exact h1
      · exact fbef_trans h1 ((List.pairwise_cons.1 h2).1 z hz)
    · rintro ⟨h1, h2⟩
      exact ⟨h1 y List.mem_cons_self, h2⟩
theorem upB_pairs : ∀ l : List Ht, upB l = true ↔ ∀ i x y, l[i]? = some x → l[i + 1]? = some y → bytesBefore x.key y.key = true
  | [] => ⟨fun _ i x y h => by simp at h, fun _ => rfl⟩
  | [a] => ⟨fun _ i x y _ h => by simp at h, fun _ => rfl⟩
  | a :: b :: r => by
    have ih := upB_pairs (b :: r)
    rw [upB, Bool.and_eq_true, ih]
    constructor
    · rintro ⟨h1, h2⟩ i x y hx hy
      match i with
      | 0 =>
        simp at hx hy
        subst hx hy
        exact h1
      | i + 1 =>
        rw [List.getElem?_cons_succ] at hx hy
        exact h2 i x y hx hy
    · intro h
      exact ⟨h 0 a b rfl rfl, fun i x y hx hy => h (i + 1) x y (by rw [List.getElem?_cons_succ]; exact hx) (by rw [List.getElem?_cons_succ]; exact hy)⟩
theorem upB_not {l : List Ht} {i : Nat} {x y : Ht} (hx : l[i]? = some x) (hy : l[i + 1]? = some y) (h : bytesBefore x.key y.key = false) : upB l = false := by
  rcases hu : upB l with _ | _
  · rfl
  · have := (upB_pairs l).1 hu i x y hx hy
    rw [this] at h
    cases h
theorem Rising.key {l : List Ht} (h : Rising l) {x y : Ht} (hx : x ∈ l) (hy : y ∈ l) (e : x.key = y.key) : x = y := by
  induction l with
  | nil => cases hx
  | cons a r ih =>
    obtain ⟨h1, h2⟩ := List.pairwise_cons.1 h
    rcases List.mem_cons.1 hx with hxa | hxr
    · rcases List.mem_cons.1 hy with hya | hyr
      · rw [hxa, hya]
      · exact absurd (hxa ▸ e) (fbef_ne (h1 y hyr))
    · rcases List.mem_cons.1 hy with hya | hyr
      · exact absurd (hya ▸ e.symm) (fbef_ne (h1 x hxr))
      · exact ih h2 hxr hyr

/-! Places: with each hint a number. -/
section
variable {τ : Type}
def Sorted (l : List (τ × Ht)) : Prop := l.Pairwise fun x y => bytesBefore x.2.key y.2.key = true
theorem sorted_ext : ∀ {a b : List (τ × Ht)}, Sorted a → Sorted b → (∀ x, x ∈ a ↔ x ∈ b) → a = b
  | [], [], _, _, _ => rfl
  | [], y :: b, _, _, h => by have := (h y).2 List.mem_cons_self; cases this
  | x :: a, [], _, _, h => by have := (h x).1 List.mem_cons_self; cases this
  | x :: a, y :: b, ha, hb, h => by
    obtain ⟨ha1, ha2⟩ := List.pairwise_cons.1 ha
    obtain ⟨hb1, hb2⟩ := List.pairwise_cons.1 hb
    have hxy : x = y := by
      rcases List.mem_cons.1 ((h x).1 List.mem_cons_self) with e | hx
      · exact e
      · rcases List.mem_cons.1 ((h y).2 List.mem_cons_self) with e | hy
        · exact e.symm
        · have h1 := fbef_asymm (hb1 x hx)
          rw [ha1 y hy] at h1
          cases h1
    subst hxy
    congr 1
    refine sorted_ext ha2 hb2 fun z => ⟨fun hz => ?_, fun hz => ?_⟩
    · rcases List.mem_cons.1 ((h z).1 (List.mem_cons_of_mem _ hz)) with e | hz2
      · subst e
        have := ha1 z hz
        rw [fbef_irrefl] at this
        cases this
      · exact hz2
    · rcases List.mem_cons.1 ((h z).2 (List.mem_cons_of_mem _ hz)) with e | hz2
      · subst e
        have := hb1 z hz
        rw [fbef_irrefl] at this
        cases this
      · exact hz2
/-- How many are ahead of a key. -/
def slot (key : List UInt8) : List (τ × Ht) → Nat
  | [] => 0
  | x :: r => if bytesBefore x.2.key key = true then slot key r + 1 else 0
theorem slot_le (key : List UInt8) : ∀ l : List (τ × Ht), slot key l ≤ l.length
  | [] => Nat.le_refl _
  | x :: r => by
    have := slot_le key r
    unfold slot
    split
    · simp; omega
    · simp
theorem slot_take {key : List UInt8} : ∀ {l : List (τ × Ht)}, ∀ x ∈ l.take (slot key l), bytesBefore x.2.key key = true
  | [], x, hx => by simp at hx
  | y :: r, x, hx => by
    unfold slot at hx
    split at hx
    · rename_i hy
      rw [List.take_succ_cons] at hx
      rcases List.mem_cons.1 hx with rfl | hx
      · exact hy
      · exact slot_take x hx
    · simp at hx
theorem slot_at {key : List UInt8} : ∀ {l : List (τ × Ht)} {x : τ × Ht}, l[slot key l]? = some x → bytesBefore x.2.key key = false
  | [], x, hx => by simp at hx
  | y :: r, x, hx => by
    unfold slot at hx
    split at hx
    · rw [List.getElem?_cons_succ] at hx
      exact slot_at hx
    · rename_i hy
      simp at hx
      subst hx
      simpa using hy
theorem slot_eq {key : List UInt8} : ∀ {l : List (τ × Ht)} {k : Nat}, k ≤ l.length → (∀ i x, i < k → l[i]? = some x → bytesBefore x.2.key key = true) → (∀ x, l[k]? = some x → bytesBefore x.2.key key = false) → k = slot key l
  | [], k, hk, _, _ => by simp at hk; subst hk; rfl
  | y :: r, 0, _, _, h => by
    have := h y rfl
    unfold slot
    rw [this]
    rfl
  | y :: r, k + 1, hk, h1, h2 => by
    have hy := h1 0 y (by omega) rfl
    unfold slot
    rw [if_pos hy, ← slot_eq (l := r) (k := k) (by simpa using hk) (fun i x hi hx => h1 (i + 1) x (by omega) (by rw [List.getElem?_cons_succ]; exact hx)) (fun x hx => h2 x (by rw [List.getElem?_cons_succ]; exact hx))]
/-- What is left behind a key's place. -/
def behind (key : List UInt8) (l : List (τ × Ht)) : List (τ × Ht) :=
  match l.drop (slot key l) with
  | [] => []
  | x :: r => if x.2.key = key then r else x :: r
def rput (l : List (τ × Ht)) (p : τ × Ht) : List (τ × Ht) := l.take (slot p.2.key l) ++ [p] ++ behind p.2.key l
theorem behind_sub {key : List UInt8} {l : List (τ × Ht)} : (behind key l).Sublist (l.drop (slot key l)) := by
  unfold behind
  split
  · rename_i h; exact List.nil_sublist _
  · rename_i x r h
    rw [h]
    split
    · exact List.sublist_cons_self _ _
    · exact List.Sublist.refl _
theorem drop_rest {l : List (τ × Ht)} (hl : Sorted l) {key : List UInt8} : ∀ x ∈ l.drop (slot key l), bytesBefore x.2.key key = false := by
  intro x hx
  rcases hd : l.drop (slot key l) with _ | ⟨y, r⟩
  · rw [hd] at hx; cases hx
  · have hy : l[slot key l]? = some y := by
      have := congrArg (·[0]?) hd
      simpa using this
    have h1 := slot_at hy
    rw [hd] at hx
    rcases List.mem_cons.1 hx with rfl | hx
    · exact h1
    · have hs : Sorted (y :: r) := by rw [← hd]; exact hl.sublist (List.drop_sublist _ _)
      have h2 := (List.pairwise_cons.1 hs).1 x hx
      rcases h3 : bytesBefore x.2.key key with _ | _
      · rfl
      · have := fbef_trans h2 h3
        rw [this] at h1
        cases h1
theorem behind_after {l : List (τ × Ht)} (hl : Sorted l) {key : List UInt8} : ∀ x ∈ behind key l, bytesBefore key x.2.key = true := by
  intro x hx
  have hs : Sorted (l.drop (slot key l)) := hl.sublist (List.drop_sublist _ _)
  have hr := drop_rest hl (key := key)
  unfold behind at hx
  split at hx
  · cases hx
  · rename_i y r h
    rw [h] at hs hr
    obtain ⟨h1, h2⟩ := List.pairwise_cons.1 hs
    split at hx
    · rename_i e
      rw [← e]
      exact h1 x hx
    · rename_i e
      have hy : bytesBefore key y.2.key = true := fbef_total (hr y List.mem_cons_self) e
      rcases List.mem_cons.1 hx with rfl | hx
      · exact hy
      · exact fbef_trans hy (h1 x hx)
theorem rput_sorted {l : List (τ × Ht)} (hl : Sorted l) (p : τ × Ht) : Sorted (rput l p) := by
  unfold rput Sorted
  have hb := behind_after hl (key := p.2.key)
  have hbs : Sorted (behind p.2.key l) := (hl.sublist (List.drop_sublist _ _)).sublist behind_sub
  rw [List.append_assoc, List.pairwise_append]
  refine ⟨hl.sublist (List.take_sublist _ _), List.pairwise_cons.2 ⟨hb, hbs⟩, fun x hx y hy => ?_⟩
  have h1 := slot_take x hx
  rcases List.mem_append.1 hy with hy | hy
  · rw [List.mem_singleton.1 hy]; exact h1
  · exact fbef_trans h1 (hb y hy)
theorem rput_mem {l : List (τ × Ht)} (hl : Sorted l) (p x : τ × Ht) : x ∈ rput l p ↔ x = p ∨ (x ∈ l ∧ x.2.key ≠ p.2.key) := by
  have hd : x ∈ l ↔ x ∈ l.take (slot p.2.key l) ∨ x ∈ l.drop (slot p.2.key l) := by
    rw [← List.mem_append, List.take_append_drop]
  have hb : x ∈ behind p.2.key l ↔ x ∈ l.drop (slot p.2.key l) ∧ x.2.key ≠ p.2.key := by
    constructor
    · intro hx
      exact ⟨behind_sub.subset hx, fun e => fbef_ne (behind_after hl x hx) e.symm⟩
    · rintro ⟨hx, hne⟩
      unfold behind
      split
      · rename_i h; rw [h] at hx; cases hx
      · rename_i y r h
        rw [h] at hx
        split
        · rename_i e
          rcases List.mem_cons.1 hx with rfl | hx
          · exact absurd e hne
          · exact hx
        · exact hx
  unfold rput
  rw [List.mem_append, List.mem_append, List.mem_singleton, hb, hd]
  constructor
  · rintro ((h | h) | ⟨h1, h2⟩)
    · exact .inr ⟨.inl h, fbef_ne (slot_take x h)⟩
    · exact .inl h
    · exact .inr ⟨.inr h1, h2⟩
  · rintro (h | ⟨h1 | h1, h2⟩)
    · exact .inl (.inr h)
    · exact .inl (.inl h1)
    · exact .inr ⟨h1, h2⟩
theorem rput_len (l : List (τ × Ht)) (p : τ × Ht) : (rput l p).length ≤ l.length + 1 := by
  have h1 : (behind p.2.key l).length ≤ (l.drop (slot p.2.key l)).length := behind_sub.length_le
  unfold rput
  rw [List.length_append, List.length_append, List.length_take, List.length_singleton]
  rw [List.length_drop] at h1
  have := slot_le p.2.key l
  omega
theorem slot_map {σ : Type} (f : τ → σ) (key : List UInt8) : ∀ l : List (τ × Ht), slot key (l.map fun x => (f x.1, x.2)) = slot key l
  | [] => rfl
  | x :: r => by
    rw [List.map_cons]
    unfold slot
    rw [slot_map f key r]
theorem rput_map {σ : Type} (f : τ → σ) (l : List (τ × Ht)) (p : τ × Ht) : rput (l.map fun x => (f x.1, x.2)) (f p.1, p.2) = (rput l p).map fun x => (f x.1, x.2) := by
  have hb : behind p.2.key (l.map fun x => (f x.1, x.2)) = (behind p.2.key l).map fun x => (f x.1, x.2) := by
    unfold behind
    rw [slot_map, ← List.map_drop]
    rcases l.drop (slot p.2.key l) with _ | ⟨x, r⟩
    · rfl
    · rw [List.map_cons]
      show (if x.2.key = p.2.key then _ else _) = List.map _ (if x.2.key = p.2.key then _ else _)
      split <;> rfl
  unfold rput
  dsimp only
  rw [slot_map, hb, List.map_append, List.map_append, ← List.map_take]
  rfl
end

/-! What lists have, folded. -/
structure Folds (M : Nat → Ht → Prop) (L : List (Nat × Ht)) : Prop where
  rise : Sorted L
  iff : ∀ i h, (i, h) ∈ L ↔ M i h ∧ ∀ j g, M j g → g.key = h.key → j ≤ i
theorem Folds.uniq {M : Nat → Ht → Prop} {a b : List (Nat × Ht)} (ha : Folds M a) (hb : Folds M b) : a = b :=
  sorted_ext ha.rise hb.rise fun ⟨i, h⟩ => by rw [ha.iff, hb.iff]
theorem Folds.same {M M' : Nat → Ht → Prop} {L : List (Nat × Ht)} (h : Folds M L) (e : ∀ i x, M i x ↔ M' i x) : Folds M' L :=
  ⟨h.rise, fun i x => by
    rw [h.iff, e]
    exact and_congr_right fun _ => ⟨fun q j g hg => q j g ((e j g).2 hg), fun q j g hg => q j g ((e j g).1 hg)⟩⟩
theorem Folds.none {M : Nat → Ht → Prop} (h : ∀ i x, ¬ M i x) : Folds M [] := ⟨List.Pairwise.nil, fun i x => ⟨fun q => (by cases q), fun q => absurd q.1 (h i x)⟩⟩
/-- One more, of the last list. -/
theorem Folds.put {M : Nat → Ht → Prop} {L : List (Nat × Ht)} (hL : Folds M L) {i : Nat} {h : Ht} (hlast : ∀ j g, M j g → j ≤ i) (hnew : ∀ g, M i g → g.key ≠ h.key) :
    Folds (fun j g => M j g ∨ (j = i ∧ g = h)) (rput L (i, h)) := by
  refine ⟨rput_sorted hL.rise _, fun j g => ?_⟩
  rw [rput_mem hL.rise, hL.iff]
  constructor
  · rintro (e | ⟨⟨h1, h2⟩, hne⟩)
    · obtain ⟨rfl, rfl⟩ := Prod.mk.inj e
      refine ⟨.inr ⟨rfl, rfl⟩, fun k x hk _ => ?_⟩
      rcases hk with hk | ⟨rfl, _⟩
      · exact hlast k x hk
      · exact Nat.le_refl _
    · refine ⟨.inl h1, fun k x hk hx => ?_⟩
      rcases hk with hk | ⟨rfl, rfl⟩
      · exact h2 k x hk hx
      · exact absurd hx.symm hne
  · rintro ⟨h1 | ⟨rfl, rfl⟩, h2⟩
    · by_cases e : g.key = h.key
      · have := h2 i h (.inr ⟨rfl, rfl⟩) e.symm
        have h3 := hlast j g h1
        have hji : j = i := by omega
        subst hji
        exact absurd e (hnew g h1)
      · exact .inr ⟨⟨h1, fun k x hk hx => h2 k x (.inl hk) hx⟩, e⟩
    · exact .inl rfl
/-- The least key's last one is told first. -/
theorem Folds.next {M M' : Nat → Ht → Prop} {L : List (Nat × Ht)} {i : Nat} {h : Ht} (hM : M i h) (hone : ∀ g, M i g → g.key = h.key → g = h) (hmin : ∀ j g, M j g → bytesBefore g.key h.key = false) (hmax : ∀ j g, M j g → g.key = h.key → j ≤ i)
    (hM' : ∀ j g, M' j g ↔ M j g ∧ g.key ≠ h.key) (hL : Folds M' L) : Folds M ((i, h) :: L) := by
  refine ⟨List.pairwise_cons.2 ⟨fun x hx => ?_, hL.rise⟩, fun j g => ?_⟩
  · obtain ⟨j, g⟩ := x
    have h1 := ((hM' j g).1 ((hL.iff j g).1 hx).1)
    exact fbef_total (hmin j g h1.1) h1.2
  · rw [List.mem_cons, hL.iff, hM']
    constructor
    · rintro (e | ⟨⟨h1, h2⟩, h3⟩)
      · obtain ⟨rfl, rfl⟩ := Prod.mk.inj e
        exact ⟨hM, hmax⟩
      · exact ⟨h1, fun k x hk hx => h3 k x ((hM' k x).2 ⟨hk, fun e => h2 (hx ▸ e)⟩) hx⟩
    · rintro ⟨h1, h2⟩
      by_cases e : g.key = h.key
      · have h3 := h2 i h hM e.symm
        have h4 := hmax j g h1 e
        have hji : j = i := by omega
        subst hji
        exact .inl (by rw [hone g h1 e])
      · exact .inr ⟨⟨h1, e⟩, fun k x hk hx => h2 k x ((hM' k x).1 hk).1 hx⟩
/-- A hint of a list. -/
def Has (ls : List (List Ht)) (i : Nat) (h : Ht) : Prop := ∃ l, ls[i]? = some l ∧ h ∈ l
def putsL (i : Nat) : List (Nat × Ht) → List Ht → List (Nat × Ht)
  | L, [] => L
  | L, h :: r => putsL i (rput L (i, h)) r
def foldF : Nat → List (Nat × Ht) → List (List Ht) → List (Nat × Ht)
  | _, L, [] => L
  | i, L, l :: r => foldF (i + 1) (putsL i L l) r
def foldP (ls : List (List Ht)) : List (Nat × Ht) := foldF 0 [] ls
theorem Folds.puts {i : Nat} : ∀ {l : List Ht} {M : Nat → Ht → Prop} {L : List (Nat × Ht)}, Folds M L → Rising l → (∀ j g, M j g → j ≤ i) → (∀ g, M i g → ∀ h ∈ l, g.key ≠ h.key) →
    Folds (fun j g => M j g ∨ (j = i ∧ g ∈ l)) (putsL i L l)
  | [], M, L, hL, _, _, _ => hL.same fun j g => ⟨.inl, fun q => q.elim id fun q => by cases q.2⟩
  | h :: r, M, L, hL, hr, hle, hne => by
    obtain ⟨h1, h2⟩ := List.pairwise_cons.1 hr
    have hp := hL.put hle (fun g hg => hne g hg h List.mem_cons_self)
    have := Folds.puts hp h2 (fun j g hj => hj.elim (hle j g) fun q => by omega) (fun g hg x hx => by
      rcases hg with hg | ⟨_, rfl⟩
      · exact hne g hg x (List.mem_cons_of_mem _ hx)
      · exact fbef_ne (h1 x hx))
    refine this.same fun j g => ?_
    rw [List.mem_cons]
    constructor
    · rintro ((q | ⟨q1, q2⟩) | ⟨q1, q2⟩)
      · exact .inl q
      · exact .inr ⟨q1, .inl q2⟩
      · exact .inr ⟨q1, .inr q2⟩
    · rintro (q | ⟨q1, q2 | q2⟩)
      · exact .inl (.inl q)
      · exact .inl (.inr ⟨q1, q2⟩)
      · exact .inr ⟨q1, q2⟩
theorem Folds.fold : ∀ {ls : List (List Ht)} {i : Nat} {M : Nat → Ht → Prop} {L : List (Nat × Ht)}, Folds M L → (∀ l ∈ ls, Rising l) → (∀ j g, M j g → j < i) →
    Folds (fun j g => M j g ∨ ∃ k, j = i + k ∧ Has ls k g) (foldF i L ls)
  | [], i, M, L, hL, _, _ => hL.same fun j g => ⟨.inl, fun q => q.elim id fun ⟨k, _, l, q, _⟩ => by simp at q⟩
  | l :: r, i, M, L, hL, hr, hlt => by
    have hp := hL.puts (hr l List.mem_cons_self) (fun j g hj => Nat.le_of_lt (hlt j g hj)) (fun g hg => by have := hlt i g hg; omega)
    have := Folds.fold (i := i + 1) hp (fun x hx => hr x (List.mem_cons_of_mem _ hx)) (fun j g hj => by rcases hj with hj | ⟨rfl, _⟩; (have := hlt j g hj; omega); omega)
    refine this.same fun j g => ?_
    constructor
    · rintro ((q | ⟨rfl, q⟩) | ⟨k, rfl, q⟩)
      · exact .inl q
      · exact .inr ⟨0, rfl, l, rfl, q⟩
      · obtain ⟨x, hx, hg⟩ := q
        exact .inr ⟨k + 1, by omega, x, by rw [List.getElem?_cons_succ]; exact hx, hg⟩
    · rintro (q | ⟨k, rfl, x, hx, hg⟩)
      · exact .inl (.inl q)
      · match k with
        | 0 =>
          simp at hx
          subst hx
          exact .inl (.inr ⟨by omega, hg⟩)
        | k + 1 =>
          rw [List.getElem?_cons_succ] at hx
          exact .inr ⟨k, by omega, x, hx, hg⟩
theorem fold_all {ls : List (List Ht)} (h : ∀ l ∈ ls, Rising l) : Folds (Has ls) (foldP ls) := by
  have := Folds.fold (ls := ls) (i := 0) (Folds.none (M := fun _ _ => False) fun _ _ q => q) h (fun _ _ q => q.elim)
  refine this.same fun j g => ?_
  constructor
  · rintro (q | ⟨k, rfl, q⟩)
    · exact q.elim
    · rwa [Nat.zero_add]
  · exact fun q => .inr ⟨j, by omega, q⟩
/-- A key that a list has is told. -/
theorem Folds.told {M : Nat → Ht → Prop} {L : List (Nat × Ht)} (hL : Folds M L) {N : Nat} (hN : ∀ j g, M j g → j < N) : ∀ (k i : Nat) (h : Ht), N - i ≤ k → M i h → ∃ p ∈ L, p.2.key = h.key
  | 0, i, h, hk, hi => by have := hN i h hi; omega
  | k + 1, i, h, hk, hi => by
    by_cases hmax : ∀ j g, M j g → g.key = h.key → j ≤ i
    · exact ⟨(i, h), (hL.iff i h).2 ⟨hi, hmax⟩, rfl⟩
    · obtain ⟨j, hj⟩ := Classical.not_forall.1 hmax
      obtain ⟨g, hg⟩ := Classical.not_forall.1 hj
      have hg1 : M j g := Classical.byContradiction fun q => hg fun q2 => absurd q2 q
      have hg2 : g.key = h.key := Classical.byContradiction fun q => hg fun _ q2 => absurd q2 q
      have hlt : i < j := Nat.lt_of_not_le fun q => hg fun _ _ => q
      obtain ⟨p, hp, he⟩ := Folds.told hL hN k j g (by omega) hg1
      exact ⟨p, hp, he.trans hg2⟩
def manyL (ls : List (List Ht)) : Nat := (ls.map List.length).sum
theorem putsL_len (i : Nat) : ∀ (l : List Ht) (L : List (Nat × Ht)), (putsL i L l).length ≤ L.length + l.length
  | [], L => Nat.le_refl _
  | h :: r, L => by
    have h1 := putsL_len i r (rput L (i, h))
    have h2 := rput_len L (i, h)
    rw [putsL, List.length_cons]
    omega
theorem foldF_len : ∀ (ls : List (List Ht)) (i : Nat) (L : List (Nat × Ht)), (foldF i L ls).length ≤ L.length + manyL ls
  | [], i, L => by simp [foldF, manyL]
  | l :: r, i, L => by
    have h1 := foldF_len r (i + 1) (putsL i L l)
    have h2 := putsL_len i l L
    unfold manyL at h1 ⊢
    rw [foldF, List.map_cons, List.sum_cons]
    omega
theorem foldP_len (ls : List (List Ht)) : (foldP ls).length ≤ manyL ls := by
  have := foldF_len ls 0 []
  simpa [foldP] using this
end Go.Proofs.Ytnnkioekjobbmaa
