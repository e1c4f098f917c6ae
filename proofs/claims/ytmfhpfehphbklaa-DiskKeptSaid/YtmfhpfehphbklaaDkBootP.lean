/-
  What a Boot leaves of files, as a function of what is still to come.
-/
import Derived.Test.YtmfhpfehphbklaaDkLose
import Derived.Maps.RangeWalk
namespace Go.Proofs.Ytmfhpfehphbklaa
open Go.RowKit Go.Maps Go.WideMaps
set_option linter.unusedVariables false
set_option linter.unusedSimpArgs false

def lostFs (files : Nat → Fl) (names : Dir) (l : List Int) (lf : Lit → Bool) : Nat → Fl := fun i => if names.any (fun p => p.2 == i && !lf (.string p.1)) then (files i).lose (more l i) else files i
def lostSum (files : Nat → Fl) (names : Dir) (l : List Int) (lf : Lit → Bool) : Int := (names.map fun p => if lf (.string p.1) then 0 else (((files p.2).lose (more l p.2)).bytes.length : Int)).sum

theorem lose_twice (f : Fl) (x : Int) : (f.lose x).lose x = f.lose x := by
  unfold Fl.lose
  generalize hn : f.kept + (min (max x 0) ((f.bytes.length : Int) - f.kept)).toNat = n
  have h1 : (f.bytes.take n).length ≤ n := by rw [List.length_take]; omega
  have h2 : (min (max x 0) (((f.bytes.take n).length : Int) - n)).toNat = 0 := by omega
  simp only [h2, Nat.add_zero, List.take_take, Nat.min_self]

theorem has_mem {l : Dir} {p : Nm × Nat} (h : p ∈ l) : Maps.has (encD (H := Unit) l) (.string p.1) = true := by
  rw [has_enc]
  unfold Dir.find
  rw [Option.isSome_map, List.find?_isSome]
  exact ⟨p, h, by simp⟩

section
variable (files : Nat → Fl) (l : List Int)
theorem lost_start (names : Dir) : lostFs files names l (Maps.has (encD (H := Unit) names)) = files ∧ lostSum files names l (Maps.has (encD (H := Unit) names)) = 0 := by
  constructor
  · funext i
    unfold lostFs
    rw [if_neg]
    rw [Bool.not_eq_true, List.any_eq_false]
    intro p hp
    rw [has_mem hp]
    simp
  · unfold lostSum
    have : (names.map fun p => if Maps.has (encD (H := Unit) names) (.string p.1) then (0 : Int) else (((files p.2).lose (more l p.2)).bytes.length : Int)) = names.map fun _ => 0 := List.map_congr_left fun p hp => by rw [has_mem hp]; rfl
    rw [this]
    have z : ∀ l : Dir, (l.map fun _ => (0 : Int)).sum = 0 := fun l => by
      induction l with
      | nil => rfl
      | cons a r ih => simpa using ih
    exact z names

theorem lost_end {names : Dir} {lf : Lit → Bool} (h : ∀ kl, lf kl = false) :
    lostFs files names l lf = (fun i => if names.any (fun p => p.2 == i) then (files i).lose (more l i) else files i) ∧ lostSum files names l lf = (names.map fun p => ((((fun i => if names.any (fun p => p.2 == i) then (files i).lose (more l i) else files i) p.2 : Fl).bytes.length : Nat) : Int)).sum := by
  constructor
  · funext i
    unfold lostFs
    simp only [h, Bool.not_false, Bool.and_true]
  · unfold lostSum
    congr 1
    refine List.map_congr_left fun p hp => ?_
    have : names.any (fun q => q.2 == p.2) = true := List.any_eq_true.2 ⟨p, hp, by simp⟩
    simp [h, this]

theorem lost_step {names : Dir} (hnd : (names.map (·.1)).Nodup) {lf : Lit → Bool} {x : Nm} {f : Nat} (hf : Dir.find x names = some f) (hl : lf (.string x) = true) :
    lostFs files names l (fun z => lf z && !z.sameKey (.string x)) = (fun i => if i = f then (lostFs files names l lf f).lose (more l f) else lostFs files names l lf i) ∧
    lostSum files names l (fun z => lf z && !z.sameKey (.string x)) = lostSum files names l lf + (((files f).lose (more l f)).bytes.length : Int) ∧ (lostFs files names l lf f).lose (more l f) = (files f).lose (more l f) := by
  have hmem : (x, f) ∈ names := by
    unfold Dir.find at hf
    obtain ⟨p, hp, e⟩ := Option.map_eq_some_iff.1 hf
    have h1 := List.find?_some hp
    have h2 := List.mem_of_find?_eq_some hp
    have h1 : p.1 = x := by simpa using h1
    subst h1; subst e
    exact h2
  have huniq : ∀ p ∈ names, p.1 = x → p = (x, f) := fun p hp e => by
    have := (List.pairwise_map.1 hnd)
    rcases List.mem_iff_getElem.1 hp with ⟨i, hi, rfl⟩
    rcases List.mem_iff_getElem.1 hmem with ⟨j, hj, hj2⟩
    have hij : i = j := by
      rcases Nat.lt_trichotomy i j with h | h | h
      · exact absurd (by rw [hj2]; exact e) (List.pairwise_iff_getElem.1 this i j hi hj h)
      · exact h
      · exact absurd (by rw [hj2]; exact e.symm) (List.pairwise_iff_getElem.1 this j i hj hi h)
    subst hij
    exact hj2
  have hidem : (lostFs files names l lf f).lose (more l f) = (files f).lose (more l f) := by
    unfold lostFs
    split
    · exact lose_twice _ _
    · rfl
  refine ⟨?_, ?_, hidem⟩
  · funext i
    by_cases hi : i = f
    · subst hi
      rw [if_pos rfl, hidem]
      unfold lostFs
      rw [if_pos]
      refine List.any_eq_true.2 ⟨_, hmem, ?_⟩
      simp [sameStr]
    · rw [if_neg hi]
      unfold lostFs
      have : (names.any fun p => p.2 == i && !(lf (.string p.1) && !(Lit.string p.1).sameKey (.string x))) = names.any fun p => p.2 == i && !lf (.string p.1) := by
        rw [Bool.eq_iff_iff, List.any_eq_true, List.any_eq_true]
        constructor
        · rintro ⟨p, hp, h⟩
          simp only [sameStr, Bool.and_eq_true, beq_iff_eq, Bool.not_eq_true', Bool.and_eq_false_iff, Bool.not_eq_false'] at h
          obtain ⟨h1, h2⟩ := h
          refine ⟨p, hp, ?_⟩
          rcases h2 with h2 | h2
          · simp [h1, h2]
          · have := huniq p hp h2
            rw [this] at h1
            exact absurd h1.symm hi
        · rintro ⟨p, hp, h⟩
          simp only [Bool.and_eq_true, beq_iff_eq, Bool.not_eq_true'] at h
          exact ⟨p, hp, by simp [h.1, h.2]⟩
      rw [this]
  · unfold lostSum
    clear hidem hf
    induction names with
    | nil => cases hmem
    | cons a r ih =>
      simp only [List.map_cons, List.nodup_cons] at hnd
      simp only [List.map_cons, List.sum_cons]
      by_cases ha : a = (x, f)
      · subst ha
        have hr : (r.map fun p => if (lf (.string p.1) && !(Lit.string p.1).sameKey (.string x)) = true then (0 : Int) else (((files p.2).lose (more l p.2)).bytes.length : Int)) = r.map fun p => if lf (.string p.1) = true then (0 : Int) else (((files p.2).lose (more l p.2)).bytes.length : Int) :=
          List.map_congr_left fun p hp => by
            have : p.1 ≠ x := fun e => hnd.1 (List.mem_map.2 ⟨p, hp, e⟩)
            have : (p.1 == x) = false := by rw [beq_eq_false_iff_ne]; exact this
            simp [sameStr, this]
        rw [hr]
        simp [sameStr, hl]
        omega
      · have hm : (x, f) ∈ r := by
          rcases List.mem_cons.1 hmem with e | e
          · exact absurd e.symm ha
          · exact e
        have hax : (a.1 == x) = false := by
          rw [beq_eq_false_iff_ne]
          exact fun e => ha (huniq a (List.mem_cons_self) e)
        rw [ih hnd.2 hm (fun p hp => huniq p (List.mem_cons_of_mem _ hp))]
        simp [sameStr, hax]
        omega
end
end Go.Proofs.Ytmfhpfehphbklaa
