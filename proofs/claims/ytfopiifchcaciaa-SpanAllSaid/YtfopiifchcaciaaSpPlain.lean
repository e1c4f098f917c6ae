/-
  Ranges of pieces: plain functions, over lists of numbers.
-/
namespace Go.Proofs.Ytfopiifchcaciaa

/-- The sum of all. -/
def tot : List Int → Int
  | [] => 0
  | x :: xs => x + tot xs
theorem tot_append : ∀ xs ys : List Int, tot (xs ++ ys) = tot xs + tot ys
  | [], ys => by simp [tot]
  | x :: xs, ys => by simp only [List.cons_append, tot, tot_append xs ys]; omega
theorem tot_next (xs : List Int) (j : Nat) (x : Int) (h : xs[j]? = some x) : tot (xs.take (j + 1)) = tot (xs.take j) + x := by
  rw [List.take_add_one, h, tot_append]
  simp [tot]
/-- These are sizes. -/
def rightP (xs : List Int) : Bool := decide (xs.length ≤ 512) && xs.all fun x => decide (1 ≤ x) && decide (x ≤ 4096)
theorem right_len {xs : List Int} (h : rightP xs = true) : xs.length ≤ 512 := by
  unfold rightP at h
  simp at h
  exact h.1
theorem right_get {xs : List Int} (h : rightP xs = true) {j : Nat} {x : Int} (hx : xs[j]? = some x) : 1 ≤ x ∧ x ≤ 4096 := by
  unfold rightP at h
  simp at h
  exact h.2 x (List.mem_of_getElem? hx)
theorem right_all {xs : List Int} (h1 : xs.length ≤ 512) (h2 : ∀ (j : Nat) (x : Int), xs[j]? = some x → 1 ≤ x ∧ x ≤ 4096) : rightP xs = true := by
  unfold rightP
  simp
  refine ⟨h1, fun x hx => ?_⟩
  obtain ⟨j, hj⟩ := List.getElem?_of_mem hx
  exact h2 j x hj
theorem right_not {xs : List Int} {j : Nat} {x : Int} (hx : xs[j]? = some x) (h : ¬ (1 ≤ x ∧ x ≤ 4096)) : rightP xs = false := by
  cases hr : rightP xs
  · rfl
  · exact absurd (right_get hr hx) h
theorem tot_bound : ∀ xs : List Int, (∀ x ∈ xs, 1 ≤ x ∧ x ≤ 4096) → (xs.length : Int) ≤ tot xs ∧ tot xs ≤ 4096 * xs.length
  | [], _ => by simp [tot]
  | x :: xs, h => by
    have h1 := h x (by simp)
    have h2 := tot_bound xs fun y hy => h y (by simp [hy])
    simp only [tot, List.length_cons]
    omega
theorem right_mem {xs : List Int} (h : rightP xs = true) : ∀ x ∈ xs, 1 ≤ x ∧ x ≤ 4096 := fun x hx => by
  obtain ⟨j, hj⟩ := List.getElem?_of_mem hx
  exact right_get h hj
theorem right_tot {xs : List Int} (h : rightP xs = true) (j : Nat) : 0 ≤ tot (xs.take j) ∧ tot (xs.take j) ≤ 2097152 := by
  have h1 := tot_bound (xs.take j) fun x hx => right_mem h x (List.mem_of_mem_take hx)
  have h2 := right_len h
  rw [List.length_take] at h1
  omega
def sizeP (xs : List Int) : Int := if rightP xs = true then tot xs else 0
theorem sizeP_bound (xs : List Int) : 0 ≤ sizeP xs ∧ sizeP xs ≤ 2097152 := by
  unfold sizeP
  split
  · rename_i h
    have := right_tot h xs.length
    rwa [List.take_length] at this
  · omega
/-- From where up to where a range is. -/
def clipP (size off n : Int) : Int × Int × Bool :=
  if size < 0 ∨ size > 1073741824 ∨ off < 0 ∨ off > size ∨ n < 0 then (0, 0, false) else (off, off + (if n < size - off then n else size - off), true)

/-- A part: its piece, from where, up to where. -/
abbrev Pt := Int × Int × Int
def partP (fr to : Int) (i : Int) (b x : Int) : List Pt :=
  if max (fr - b) 0 < min (to - b) x then [(i, max (fr - b) 0, min (to - b) x)] else []
def partsP (fr to : Int) : Int → Int → List Int → List Pt
  | _, _, [] => []
  | i, b, x :: xs => partP fr to i b x ++ partsP fr to (i + 1) (b + x) xs
theorem parts_append (fr to : Int) : ∀ (xs ys : List Int) (i b : Int), partsP fr to i b (xs ++ ys) = partsP fr to i b xs ++ partsP fr to (i + xs.length) (b + tot xs) ys
  | [], ys, i, b => by simp [partsP, tot]
  | x :: xs, ys, i, b => by
    simp only [List.cons_append, partsP, parts_append fr to xs ys, List.append_assoc, tot, List.length_cons]
    rw [show i + 1 + (xs.length : Int) = i + ((xs.length + 1 : Nat) : Int) by omega, show b + x + tot xs = b + (x + tot xs) by omega]
theorem parts_next (fr to : Int) (xs : List Int) (j : Nat) (x : Int) (h : xs[j]? = some x) : partsP fr to 0 0 (xs.take (j + 1)) = partsP fr to 0 0 (xs.take j) ++ partP fr to j (tot (xs.take j)) x := by
  have hj : j < xs.length := by
    rcases Nat.lt_or_ge j xs.length with h' | h'
    · exact h'
    · rw [List.getElem?_eq_none h'] at h; cases h
  rw [List.take_add_one, h, parts_append, List.length_take, Nat.min_eq_left (Nat.le_of_lt hj)]
  simp [partsP]
theorem parts_few (fr to : Int) : ∀ (xs : List Int) (i b : Int), (partsP fr to i b xs).length ≤ xs.length
  | [], _, _ => Nat.le_refl _
  | x :: xs, i, b => by
    have h := parts_few fr to xs (i + 1) (b + x)
    simp only [partsP, List.length_append, List.length_cons]
    have : (partP fr to i b x).length ≤ 1 := by unfold partP; split <;> simp
    omega
/-- All parts of a range. -/
def allP (xs : List Int) (off n : Int) : List Pt :=
  if rightP xs = true ∧ (clipP (sizeP xs) off n).2.2 = true then partsP (clipP (sizeP xs) off n).1 (clipP (sizeP xs) off n).2.1 0 0 xs else []
theorem allP_few (xs : List Int) (off n : Int) : (allP xs off n).length ≤ 512 := by
  unfold allP
  split
  · rename_i h
    have := parts_few (clipP (sizeP xs) off n).1 (clipP (sizeP xs) off n).2.1 xs 0 0
    have := right_len h.1
    omega
  · simp
end Go.Proofs.Ytfopiifchcaciaa
