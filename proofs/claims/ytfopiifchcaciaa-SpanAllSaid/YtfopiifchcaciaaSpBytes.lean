/-
  The parts of pieces, one behind the other, are the range of all pieces, one behind the other.
-/
import Derived.Test.YtfopiifchcaciaaSpMore
namespace Go.Proofs.Ytfopiifchcaciaa
open Go.RowKit
set_option linter.unusedVariables false

def lens (ls : List (List UInt8)) : List Int := ls.map fun l => (l.length : Int)
theorem lens_len (ls : List (List UInt8)) : (lens ls).length = ls.length := by simp [lens]
theorem lens_get (ls : List (List UInt8)) (j : Nat) (hj : j < ls.length) : (lens ls)[j]? = some (((ls.getD j []).length : Nat) : Int) := by
  unfold lens
  rw [List.getElem?_map, List.getElem?_eq_getElem hj]
  simp [hj]
theorem tot_lens : ∀ ls : List (List UInt8), tot (lens ls) = (ls.flatten.length : Int)
  | [] => rfl
  | l :: ls => by
    have := tot_lens ls
    simp only [lens, List.map_cons, tot, List.flatten_cons, List.length_append] at *
    omega
/-- The bytes of a part. -/
def pieceP (LS : List (List UInt8)) (p : Pt) : List UInt8 := ((LS.getD p.1.toNat []).take p.2.2.toNat).drop p.2.1.toNat
def catP (LS : List (List UInt8)) : List Pt → List UInt8
  | [] => []
  | p :: ps => pieceP LS p ++ catP LS ps
theorem catP_append (LS : List (List UInt8)) : ∀ ps qs : List Pt, catP LS (ps ++ qs) = catP LS ps ++ catP LS qs
  | [], qs => rfl
  | p :: ps, qs => by simp only [List.cons_append, catP, catP_append LS ps qs, List.append_assoc]
theorem catP_next (LS : List (List UInt8)) (ps : List Pt) (j : Nat) (p : Pt) (h : ps[j]? = some p) : catP LS (ps.take (j + 1)) = catP LS (ps.take j) ++ pieceP LS p := by
  rw [List.take_add_one, h, catP_append]
  simp [catP]
theorem catP_parts (fr to : Int) : ∀ (ls pre : List (List UInt8)) (b : Int), catP (pre ++ ls) (partsP fr to (pre.length : Int) b (lens ls)) = (ls.flatten.take (to - b).toNat).drop (fr - b).toNat
  | [], pre, b => by simp [lens, partsP, catP]
  | l :: ls, pre, b => by
    have ih := catP_parts fr to ls (pre ++ [l]) (b + (l.length : Int))
    rw [List.append_assoc, List.length_append, List.length_singleton] at ih
    simp only [lens, List.map_cons, partsP] at ih ⊢
    rw [catP_append, show ((pre.length : Int) + 1) = ((pre.length + 1 : Nat) : Int) by omega]
    have ih' : catP (pre ++ l :: ls) (partsP fr to ((pre.length + 1 : Nat) : Int) (b + (l.length : Int)) (List.map (fun l => (l.length : Int)) ls)) = (ls.flatten.take (to - (b + (l.length : Int))).toNat).drop (fr - (b + (l.length : Int))).toNat := ih
    rw [ih', List.flatten_cons, List.take_append, List.drop_append, List.length_take]
    have e1 : (to - (b + (l.length : Int))).toNat = (to - b).toNat - l.length := by omega
    rw [e1]
    congr 1
    · unfold partP
      split
      · rename_i h
        simp only [catP, pieceP, List.append_nil, Int.toNat_natCast]
        have hg : (pre ++ l :: ls).getD pre.length [] = l := by simp
        rw [hg]
        have e2 : (max (fr - b) 0).toNat = (fr - b).toNat := by omega
        rw [e2]
        congr 1
        by_cases hm : (to - b) < (l.length : Int)
        · rw [show (min (to - b) (l.length : Int)).toNat = (to - b).toNat by omega]
        · rw [show (min (to - b) (l.length : Int)).toNat = l.length by omega, List.take_of_length_le (Nat.le_refl _), List.take_of_length_le (by omega)]
      · rename_i h
        simp only [catP]
        symm
        apply List.drop_eq_nil_of_le
        rw [List.length_take]
        omega
    · by_cases hm : (to - b).toNat ≤ l.length
      · rw [show (to - b).toNat - l.length = 0 by omega]
        simp
      · rw [show min (to - b).toNat l.length = l.length by omega, show (fr - (b + (l.length : Int))).toNat = (fr - b).toNat - l.length by omega]
/-- What a part is told to be. -/
theorem parts_good (fr to : Int) : ∀ (ls pre : List (List UInt8)) (b : Int), ∀ p ∈ partsP fr to (pre.length : Int) b (lens ls), ∃ j f t : Nat, p = ((j : Int), (f : Int), (t : Int)) ∧ pre.length ≤ j ∧ j < (pre ++ ls).length ∧ f < t ∧ t ≤ ((pre ++ ls).getD j []).length
  | [], pre, b, p, hp => by simp [lens, partsP] at hp
  | l :: ls, pre, b, p, hp => by
    simp only [lens, List.map_cons, partsP, List.mem_append] at hp
    rcases hp with hp | hp
    · unfold partP at hp
      split at hp
      · rename_i h
        rw [List.mem_singleton.1 hp]
        refine ⟨pre.length, (max (fr - b) 0).toNat, (min (to - b) (l.length : Int)).toNat, ?_, Nat.le_refl _, by simp, by omega, ?_⟩
        · rw [show (((max (fr - b) 0).toNat : Nat) : Int) = max (fr - b) 0 by omega, show (((min (to - b) (l.length : Int)).toNat : Nat) : Int) = min (to - b) (l.length : Int) by omega]
        · have hg : (pre ++ l :: ls).getD pre.length [] = l := by simp
          rw [hg]
          omega
      · simp at hp
    · have ih := parts_good fr to ls (pre ++ [l]) (b + (l.length : Int)) p (by
        rw [List.length_append, List.length_singleton]
        exact hp)
      rw [List.append_assoc, List.length_append, List.length_singleton] at ih
      obtain ⟨j, f, t, h1, h2, h3, h4, h5⟩ := ih
      exact ⟨j, f, t, h1, by omega, h3, h4, h5⟩
theorem parts_from7 (fr to : Int) : ∀ (xs : List Int) (i b : Int), ∀ p ∈ partsP fr to i b xs, i ≤ p.1
  | [], _, _, p, hp => by simp [partsP] at hp
  | x :: xs, i, b, p, hp => by
    simp only [partsP, List.mem_append] at hp
    rcases hp with hp | hp
    · unfold partP at hp
      split at hp
      · rw [List.mem_singleton.1 hp]; exact Int.le_refl _
      · simp at hp
    · have := parts_from7 fr to xs (i + 1) (b + x) p hp
      omega
theorem parts_rise (fr to : Int) : ∀ (xs : List Int) (i b : Int), (partsP fr to i b xs).Pairwise fun p q => p.1 < q.1
  | [], _, _ => .nil
  | x :: xs, i, b => by
    simp only [partsP]
    refine List.pairwise_append.2 ⟨?_, parts_rise fr to xs (i + 1) (b + x), fun p hp q hq => ?_⟩
    · unfold partP
      split
      · exact List.pairwise_singleton _ _
      · exact .nil
    · have h1 := parts_from7 fr to xs (i + 1) (b + x) q hq
      unfold partP at hp
      split at hp
      · rw [List.mem_singleton.1 hp]
        show i < q.1
        omega
      · simp at hp
theorem rise_at {ps : List Pt} (h : ps.Pairwise fun p q => p.1 < q.1) {i : Nat} {p q : Pt} (hp : ps[i]? = some p) (hq : ps[i + 1]? = some q) : p.1 < q.1 := by
  have hl : i + 1 < ps.length := by
    rcases Nat.lt_or_ge (i + 1) ps.length with h' | h'
    · exact h'
    · rw [List.getElem?_eq_none h'] at hq; cases hq
  have := List.pairwise_iff_getElem.1 h i (i + 1) (by omega) hl (by omega)
  rw [List.getElem?_eq_getElem (by omega)] at hp
  rw [List.getElem?_eq_getElem hl] at hq
  injection hp with hp
  injection hq with hq
  rw [hp, hq] at this
  exact this
end Go.Proofs.Ytfopiifchcaciaa
