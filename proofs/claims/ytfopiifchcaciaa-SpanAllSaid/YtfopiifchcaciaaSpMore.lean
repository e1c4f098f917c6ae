/-
  Ranges of pieces: more on plain parts; rows of numbers and of parts that a law makes.
-/
import Derived.Test.YtfopiifchcaciaaSpHead
namespace Go.Proofs.Ytfopiifchcaciaa
open Go.RowKit
set_option linter.unusedVariables false

/-- Each piece, whole. -/
def wholeP : Int → List Int → List Pt
  | _, [] => []
  | i, x :: xs => (i, 0, x) :: wholeP (i + 1) xs
theorem wholeP_length : ∀ (xs : List Int) (i : Int), (wholeP i xs).length = xs.length
  | [], _ => rfl
  | x :: xs, i => by simp only [wholeP, List.length_cons, wholeP_length xs]
theorem wholeP_snoc : ∀ (xs : List Int) (x i : Int), wholeP i (xs ++ [x]) = wholeP i xs ++ [(i + xs.length, 0, x)]
  | [], x, i => by simp [wholeP]
  | y :: xs, x, i => by
    simp only [List.cons_append, wholeP, wholeP_snoc xs, List.length_cons]
    rw [show i + 1 + (xs.length : Int) = i + ((xs.length + 1 : Nat) : Int) by omega]
theorem tot_pos : ∀ xs : List Int, (∀ x ∈ xs, 0 < x) → 0 ≤ tot xs
  | [], _ => Int.le_refl _
  | x :: xs, h => by
    have h1 := h x (by simp)
    have h2 := tot_pos xs fun y hy => h y (by simp [hy])
    simp only [tot]
    omega
theorem parts_whole (fr to : Int) : ∀ (xs : List Int) (i b : Int), (∀ x ∈ xs, 0 < x) → fr ≤ b → b + tot xs ≤ to → partsP fr to i b xs = wholeP i xs
  | [], _, _, _, _, _ => rfl
  | x :: xs, i, b, h, hf, ht => by
    have h1 := h x (by simp)
    have h2 := tot_pos xs fun y hy => h y (by simp [hy])
    simp only [tot] at ht
    simp only [partsP, partP, wholeP]
    rw [parts_whole fr to xs (i + 1) (b + x) (fun y hy => h y (by simp [hy])) (by omega) (by omega), show max (fr - b) 0 = 0 by omega, show min (to - b) x = x by omega, if_pos h1]
    rfl
theorem parts_none (fr to : Int) (h : to ≤ fr) : ∀ (xs : List Int) (i b : Int), partsP fr to i b xs = []
  | [], _, _ => rfl
  | x :: xs, i, b => by
    simp only [partsP, partP]
    rw [parts_none fr to h xs, if_neg (by omega)]
    rfl
theorem clip_yes (size off n : Int) (h : 0 ≤ off ∧ off ≤ size ∧ size ≤ 1073741824 ∧ 0 ≤ n) (e : Int) (he : off + (if n < size - off then n else size - off) = e) : clipP size off n = (off, e, true) := by
  unfold clipP
  rw [if_neg (by omega), he]
theorem clip_no (size off n : Int) (h : off < 0 ∨ size < off ∨ n < 0) : clipP size off n = (0, 0, false) := by
  unfold clipP
  rw [if_pos (by omega)]
section
variable {xs : List Int} (hr : rightP xs = true)
include hr
theorem right_pos : ∀ x ∈ xs, 0 < x := fun x hx => by have := right_mem hr x hx; omega
theorem size_right : sizeP xs = tot xs := by unfold sizeP; rw [if_pos hr]
theorem tot_right : 0 ≤ tot xs ∧ tot xs ≤ 2097152 := by have := right_tot hr xs.length; rwa [List.take_length] at this
theorem all_yes (off n e : Int) (h : 0 ≤ off ∧ off ≤ tot xs ∧ 0 ≤ n) (he : off + (if n < tot xs - off then n else tot xs - off) = e) : allP xs off n = partsP off e 0 0 xs := by
  have h1 := tot_right hr
  unfold allP
  rw [size_right hr, clip_yes (tot xs) off n ⟨h.1, h.2.1, by omega, h.2.2⟩ e he, if_pos ⟨hr, rfl⟩]
theorem all_no (off n : Int) (h : off < 0 ∨ tot xs < off ∨ n < 0) : allP xs off n = [] := by
  unfold allP
  rw [size_right hr, clip_no (tot xs) off n h, if_neg (by simp)]
theorem all_full (n : Int) (hn : tot xs ≤ n) : allP xs 0 n = wholeP 0 xs := by
  have h1 := tot_right hr
  rw [all_yes hr 0 n (tot xs) (by omega) (by split <;> omega)]
  exact parts_whole 0 (tot xs) xs 0 0 (right_pos hr) (by omega) (by omega)
theorem all_end (n : Int) (hn : 0 ≤ n) : allP xs (tot xs) n = [] := by
  have h1 := tot_right hr
  rw [all_yes hr (tot xs) n (tot xs) (by omega) (by split <;> omega)]
  exact parts_none _ _ (Int.le_refl _) _ _ _
theorem all_none (k : Int) (hk : 0 ≤ k ∧ k ≤ tot xs) : allP xs k 0 = [] := by
  rw [all_yes hr k 0 k (by omega) (by split <;> omega)]
  exact parts_none _ _ (Int.le_refl _) _ _ _
end

/-- Two rows of unlike types lie in unlike blocks. -/
theorem own_unlike {w w' : World} {b1 b2 : Nat} {e1 e2 : TypeId} {s1 s2 : Nat} {v1 v2 : Value} {n1 n2 : Nat} {xs1 xs2 : List Value} (h1 : w.ownsRow b1 e1 s1 v1 n1 xs1) (h2 : w.ownsRow b2 e2 s2 v2 n2 xs2) (hne : e1 ≠ e2) (hg : w.grownBy w' v2.ownBlock) : w'.ownsRow b1 e1 s1 v1 n1 xs1 := by
  refine owned_same3 h1 fun k hk => hg.block k (owned_lt3 h1 hk).2 fun e => ?_
  rcases h1.2 with ⟨rfl, _⟩ | ⟨g, cap, cur, rfl, _, hg1, _⟩
  · simp [Value.ownBlock] at hk
  rcases h2.2 with ⟨rfl, _⟩ | ⟨g', cap', cur', rfl, _, hg2, _⟩
  · simp [Value.ownBlock] at e
  · obtain rfl : g = k := by simpa [Value.ownBlock] using hk
    obtain rfl : g = g' := by simpa [Value.ownBlock] using e
    rw [hg1] at hg2
    injection hg2 with hg2
    injection hg2 with _ ht _
    exact hne ht
theorem row_lit {w : World} {g t : Nat} {cs : Array Value} (h : Whole w g t cs) (xs : List Value) {n : Nat} (he : cs = xs.toArray) (hn : xs.length = n) : Row w w.heap.size (some ⟨g, 0, none⟩) n xs :=
  ⟨hn, fun k v hv => ⟨⟨g, 0, none⟩, rfl, h.lt, by
    rw [show (⟨g, 0, none⟩ : Addr).add k = ⟨g, k, none⟩ by unfold Addr.add; split <;> simp_all, h.cell k, he]
    simpa using hv⟩⟩
/-- One more cell at the end of a row of the call's own. -/
theorem own_last {w : World} {base : Nat} {e : TypeId} {A : Option Addr} {n c : Nat} {xs : List Value} {u : Value} (h : w.ownsRow base e 1 (.slice A (n + 1) c) (n + 1) (xs ++ [u])) : ∃ ad, A = some ad ∧ ad.block < w.heap.size ∧ w.cell? (ad.add n) = some u := by
  have hl : xs.length = n := by have := h.1; simp at this; omega
  obtain ⟨ad, h1, h2, h3⟩ := (Row.owned h).spot n u (by rw [List.getElem?_append_right (by omega)]; simp [hl])
  exact ⟨ad, h1, h2, h3⟩
def sizesOf (bs : List UInt8) : List Int := bs.map fun b => 1 + (b.toNat : Int)
theorem sizesOf_right (bs : List UInt8) (h : bs.length ≤ 512) : rightP (sizesOf bs) = true := by
  refine right_all (by simpa [sizesOf] using h) fun j x hx => ?_
  unfold sizesOf at hx
  rw [List.getElem?_map] at hx
  cases hb : bs[j]? with
  | none => rw [hb] at hx; cases hx
  | some b =>
    rw [hb] at hx
    simp only [Option.map_some, Option.some.injEq] at hx
    have := b.toNat_lt
    omega
theorem sizesOf_next (bs : List UInt8) (j : Nat) (hj : j < bs.length) : (sizesOf bs).take (j + 1) = (sizesOf bs).take j ++ [1 + ((bs.getD j 0).toNat : Int)] := by
  have : (sizesOf bs)[j]? = some (1 + ((bs.getD j 0).toNat : Int)) := by
    unfold sizesOf
    rw [List.getElem?_map, List.getElem?_eq_getElem hj]
    simp [hj]
  rw [List.take_add_one, this]
  rfl
theorem sizesOf_len (bs : List UInt8) : (sizesOf bs).length = bs.length := by simp [sizesOf]
end Go.Proofs.Ytfopiifchcaciaa
