/-
  A region that draws its order, by what holds when some of its operations are done, whichever these are.
-/
import Derived.Test.YtdkpbphgaenlnaaSteps
import Derived.StillTail
namespace Go.Proofs.Ytdkpbphgaenlnaa
open Go.RowKit
set_option linter.unusedVariables false
set_option linter.unusedSimpArgs false

/-- Which are done, and one more. -/
def did (b : Nat → Bool) (i : Nat) : Nat → Bool := fun k => if k = i then true else b k
theorem did_same (b : Nat → Bool) (i : Nat) : did b i i = true := if_pos rfl
theorem did_other (b : Nat → Bool) {i k : Nat} (h : k ≠ i) : did b i k = b k := if_neg h
section
variable {P : Program} {ops : Array Oper} {md : Region.Mode} {Q : Exit → Act → World → Prop}
def bitsOf (listed : Array Bool) : Nat → Bool := fun k => listed.getD k false
theorem bits_set (listed : Array Bool) (i : Nat) (hi : i < listed.size) : bitsOf (listed.setIfInBounds i true) = did (bitsOf listed) i := by
  funext k
  unfold bitsOf did
  by_cases h : k = i
  · subst h
    simp [hi]
  · rw [if_neg h]
    simp [Array.getD_eq_getD_getElem?, Array.getElem?_setIfInBounds, h, Ne.symm h]
/-- How many are left. -/
def leftN (ops : Array Oper) (listed : Array Bool) : Nat := ((List.range ops.size).filter fun i => !bitsOf listed i).length
theorem filter_less {α : Type} {p q : α → Bool} : ∀ {l : List α} {x : α}, x ∈ l → p x = true → q x = false → (∀ y, q y = true → p y = true) → (l.filter q).length < (l.filter p).length
  | y :: l, x, hx, hp, hq, h => by
    rcases List.mem_cons.1 hx with rfl | hx
    · rw [List.filter_cons_of_pos hp, List.filter_cons_of_neg (by simp [hq]), List.length_cons]
      exact Nat.lt_succ_of_le (by
        clear hx hp hq
        induction l with
        | nil => simp
        | cons z l ih =>
          by_cases hz : q z = true
          · rw [List.filter_cons_of_pos hz, List.filter_cons_of_pos (h z hz)]
            simpa using ih
          · rw [List.filter_cons_of_neg hz]
            by_cases hz2 : p z = true
            · rw [List.filter_cons_of_pos hz2, List.length_cons]; omega
            · rw [List.filter_cons_of_neg hz2]; exact ih)
    · have ih := filter_less hx hp hq h
      by_cases hz : q y = true
      · rw [List.filter_cons_of_pos hz, List.filter_cons_of_pos (h y hz)]
        simpa using ih
      · rw [List.filter_cons_of_neg hz]
        by_cases hz2 : p y = true
        · rw [List.filter_cons_of_pos hz2, List.length_cons]; omega
        · rw [List.filter_cons_of_neg hz2]; exact ih
/-- What an operation is asked: whichever are done, if it may come up. -/
def StepInv (P : Program) (md : Region.Mode) (ops : Array Oper) (Q : Exit → Act → World → Prop) (Inv : (Nat → Bool) → Act → World → Prop) : Prop :=
  ∀ (i : Nat) (o : Oper) (b : Nat → Bool) (a : Act) (w : World), ops[i]? = some o → b i = false → (∀ e ∈ o.after, Region.binds md e = true → b e.on = true) → Inv b a w →
    if Region.wanted o (yielded ops a.tmps) then o.wp P a w (Inv (did b i)) Q else Inv (did b i) (a.put o.dst undef) w
theorem ready_mem {listed : Array Bool} {i : Nat} (h : i ∈ Region.ready md ops listed) (hs : listed.size = ops.size) : ∃ o, ops[i]? = some o ∧ bitsOf listed i = false ∧ ∀ e ∈ o.after, Region.binds md e = true → bitsOf listed e.on = true := by
  unfold Region.ready at h
  obtain ⟨h1, h2⟩ := List.mem_filter.1 h
  have hi : i < ops.size := List.mem_range.1 h1
  rw [Bool.and_eq_true] at h2
  obtain ⟨h2, h3⟩ := h2
  rw [Array.getElem?_eq_getElem hi] at h3
  simp only [Option.map_some, Option.getD_some] at h3
  refine ⟨ops[i], Array.getElem?_eq_getElem hi, ?_, fun e he hb => ?_⟩
  · unfold bitsOf
    have : listed.getD i true = false := by simpa using h2
    simp only [Array.getD_eq_getD_getElem?, Array.getElem?_eq_getElem (hs ▸ hi), Option.getD_some] at this ⊢
    exact this
  · have := Array.all_eq_true_iff_forall_mem.1 h3 e he
    simp only [hb, Bool.not_true, Bool.false_or] at this
    exact this
theorem wpAny_inv {Inv : (Nat → Bool) → Act → World → Prop} (hst : StepInv P md ops Q Inv) (hend : ∀ b a w, Inv b a w → (∀ i, i < ops.size → (∃ o, ops[i]? = some o ∧ ∃ e ∈ o.after, Region.binds md e = true ∧ b e.on = false) ∨ b i = true) → Q .normal a w) :
    ∀ (fuel : Nat) (listed : Array Bool) (a : Act) (w : World), listed.size = ops.size → leftN ops listed ≤ fuel → Inv (bitsOf listed) a w → wpAny P md ops Q fuel listed a w := by
  have hE : ∀ (listed : Array Bool) (a : Act) (w : World), listed.size = ops.size → Inv (bitsOf listed) a w → Region.ready md ops listed = [] → Q .normal a w := fun listed a w hs hI hr => by
    refine hend _ a w hI fun i hi => ?_
    have hn : i ∉ Region.ready md ops listed := by rw [hr]; simp
    unfold Region.ready at hn
    rw [List.mem_filter, not_and] at hn
    have h1 := hn (List.mem_range.2 hi)
    by_cases hb : bitsOf listed i = true
    · exact .inr hb
    · refine .inl ⟨ops[i], Array.getElem?_eq_getElem hi, ?_⟩
      have hg : listed.getD i true = false := by
        unfold bitsOf at hb
        simp only [Array.getD_eq_getD_getElem?, Array.getElem?_eq_getElem (hs ▸ hi), Option.getD_some] at hb ⊢
        simpa using hb
      refine Classical.byContradiction fun hne => h1 ?_
      rw [hg, Array.getElem?_eq_getElem hi]
      simp only [Bool.not_false, Bool.true_and, Option.map_some, Option.getD_some]
      refine Array.all_eq_true_iff_forall_mem.2 fun e he => ?_
      cases hbd : Region.binds md e with
      | false => rfl
      | true =>
        cases hl : listed.getD e.on false with
        | true => rfl
        | false => exact absurd ⟨e, he, hbd, hl⟩ hne
  intro fuel
  induction fuel with
  | zero =>
    intro listed a w hs hl hI
    have h0 : Region.ready md ops listed = [] := by
      rcases hr : Region.ready md ops listed with _ | ⟨i, r⟩
      · rfl
      · exfalso
        have hm : i ∈ Region.ready md ops listed := by rw [hr]; exact List.mem_cons_self ..
        obtain ⟨o, h1, h2, _⟩ := ready_mem hm hs
        have hi := (Array.getElem?_eq_some_iff.1 h1).1
        have : i ∈ (List.range ops.size).filter fun i => !bitsOf listed i := List.mem_filter.2 ⟨List.mem_range.2 hi, by rw [h2]; rfl⟩
        unfold leftN at hl
        have := List.length_pos_of_mem this
        omega
    exact ⟨h0, hE listed a w hs hI h0⟩
  | succ fuel ih =>
    intro listed a w hs hl hI
    refine ⟨hE listed a w hs hI, fun i hi => ?_⟩
    obtain ⟨o, h1, h2, h3⟩ := ready_mem hi hs
    have hi' := (Array.getElem?_eq_some_iff.1 h1).1
    have key : ∀ a' w', Inv (did (bitsOf listed) i) a' w' → wpAny P md ops Q fuel (listed.setIfInBounds i true) a' w' := fun a' w' h => by
      have hb := bits_set listed i (hs ▸ hi')
      refine ih _ a' w' (by simpa using hs) ?_ (hb ▸ h)
      unfold leftN at hl ⊢
      rw [hb]
      have := filter_less (l := List.range ops.size) (p := fun k => !bitsOf listed k) (q := fun k => !did (bitsOf listed) i k) (List.mem_range.2 hi') (by rw [h2]; rfl) (by rw [did_same]; rfl) (fun k hk => by
        unfold did at hk
        split at hk
        · cases hk
        · exact hk)
      omega
    have hs1 := hst i o (bitsOf listed) a w h1 h2 h3 hI
    unfold wpOp
    simp only [h1]
    split
    · rename_i hw
      rw [if_pos hw] at hs1
      exact .inl (Oper.wp_mono (fun a' w' h => key a' w' h) hs1)
    · rename_i hw
      rw [if_neg hw] at hs1
      exact key _ _ hs1
theorem wp_region_inv {id : Nat} {a : Act} {w : World} (Inv : (Nat → Bool) → Act → World → Prop) (hm : P.follows .mixedOrders = true) (h0 : Inv (fun _ => false) a { w with drawn := w.drawn + 1 }) (hst : StepInv P .any ops Q Inv)
    (hend : ∀ b a w, Inv b a w → (∀ i, i < ops.size → (∃ o, ops[i]? = some o ∧ ∃ e ∈ o.after, Region.binds .any e = true ∧ b e.on = false) ∨ b i = true) → Q .normal a w) : (Code.region id ops true).wp P Q a w := by
  refine wp_region_any hm (wpAny_inv hst hend ops.size _ a _ (by simp) ?_ ?_)
  · unfold leftN
    exact Nat.le_trans (List.length_filter_le _ _) (by simp)
  · have : bitsOf (Array.replicate ops.size false) = fun _ => false := by
      funext k
      unfold bitsOf
      simp [Array.getD_eq_getD_getElem?, Array.getElem?_replicate]
      split <;> rfl
    rw [this]
    exact h0
/-- Where all that an operation waits for stands ahead of it, all are done in the end. -/
theorem all_done {b : Nat → Bool} (hord : ∀ (i : Nat) (o : Oper), ops[i]? = some o → ∀ e ∈ o.after, e.on < i) (h : ∀ i, i < ops.size → (∃ o, ops[i]? = some o ∧ ∃ e ∈ o.after, Region.binds md e = true ∧ b e.on = false) ∨ b i = true) : ∀ i, i < ops.size → b i = true := by
  intro i
  induction i using Nat.strongRecOn with
  | _ i ih =>
    intro hi
    rcases h i hi with ⟨o, h1, e, h2, _, h4⟩ | h
    · have h5 := hord i o h1 e h2
      rw [ih e.on h5 (by omega)] at h4
      cases h4
    · exact h
theorem op_val {o : Oper} {a : Act} {w w' : World} {v : Value} {K : Act → World → Prop} (h : (execOp a.eval o).run P w = .ok (.value v) w') (hk : K (a.put o.dst v) w') : o.wp P a w K Q := by
  unfold Oper.wp
  rw [h]
  exact hk
theorem op_skip {o : Oper} {a : Act} {w w' : World} {K : Act → World → Prop} (h : (execOp a.eval o).run P w = .ok .skip w') (hk : K (a.put o.dst undef) w') : o.wp P a w K Q := by
  unfold Oper.wp
  rw [h]
  exact hk
theorem op_call {o : Oper} {a : Act} {w w' : World} {f : FuncId} {args : Array Value} {K : Act → World → Prop} (h : (execOp a.eval o).run P w = .ok (.enter f args) w') (hc : Calls P f args w' fun e w'' => ∃ v, e = .returned v ∧ K (a.put o.dst v) w'') : o.wp P a w K Q := by
  unfold Oper.wp
  rw [h]
  refine Calls.mono hc fun e w'' hh => ?_
  obtain ⟨v, rfl, h2⟩ := hh
  exact h2
end
end Go.Proofs.Ytdkpbphgaenlnaa
