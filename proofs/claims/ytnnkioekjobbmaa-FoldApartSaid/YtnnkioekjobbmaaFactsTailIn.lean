/-
  The law of a drawn region with a forced tail, at the fence that lets all in: its last operations may call a loop's round ('yield').
-/
import Derived.Test.YtnnkioekjobbmaaFactsTail
import Derived.OrdersIn
import Derived.TacticsIn
namespace Go.Proofs.Ytnnkioekjobbmaa
open Go.RowKit
set_option linter.unusedVariables false

section
variable {P : Program} {md : Region.Mode} {ops : Array Oper} {E : World → World → Prop} {W : World} {m : Nat}

theorem wpAnyIn_of_seqW {Q' : Exit → Act → World → Prop} : ∀ (l : List Oper) (k : Nat) (listed : Array Bool) (a : Act) (w : World), (∀ j, l[j]? = ops[k + j]?) →
    Region.seqB md ops l.length k listed = true → wpListIn Fence.wide m P ops Q' l a w → wpAnyIn Fence.wide m P md ops Q' l.length listed a w
  | [], _, _, _, _, _, hB, h => ⟨by simpa [Region.seqB] using hB, h⟩
  | o :: l, k, listed, a, w, hl, hB, h => by
    have h0 : ops[k]? = some o := by simpa using (hl 0).symm
    simp only [List.length_cons, Region.seqB, Bool.and_eq_true, decide_eq_true_eq] at hB
    refine ⟨fun h1 => (by rw [hB.1] at h1; cases h1), fun i hi => ?_⟩
    rw [hB.1] at hi
    have hik : i = k := by simpa using hi
    subst hik
    have hw : wpOpIn Fence.wide m P ops Q' i (wpListIn Fence.wide m P ops Q' l) a w := by unfold wpOpIn; simp only [h0]; exact h
    exact wpOpIn_mono (fun a' w' h' => wpAnyIn_of_seqW l (i + 1) _ a' w' (fun j => by have := hl (j + 1); simpa [Nat.add_assoc, Nat.add_comm 1 j] using this) hB.2 h') hw

theorem wpAnyIn_of_factsT {n g : Nat} {Fs : Nat → Fact E} {Z : Act → World → Prop} {Q' : Exit → Act → World → Prop} (ht : ∀ a b c, E a b → E b c → E a c) (hZ : ∀ listed a w, Region.seqB md ops g n listed = true → Z a w → wpAnyIn Fence.wide m P md ops Q' g listed a w) :
    ∀ (f : Nat) (listed : Array Bool) (ks : Known) (a : Act) (w : World), E W w → ks.all w → (∀ k ∈ ks, ∀ w w', k.2 w → E w w' → k.2 w') → wpAnyFT P md ops E W n g Fs Z f listed ks a → wpAnyIn Fence.wide m P md ops Q' (f + g) listed a w
  | 0, listed, ks, a, w, hw, ha, _, h => by rw [Nat.zero_add]; exact hZ _ _ _ h.1 (h.2 w hw ha)
  | f + 1, listed, ks, a, w, hw, ha, hst, h => by
    rw [show f + 1 + g = (f + g) + 1 by omega]
    refine ⟨fun h0 => absurd h0 h.1, fun i hi => ?_⟩
    have h1 := (h.2 i hi).2
    unfold fOp at h1
    unfold wpOpIn
    split
    · rename_i ho; simp only [ho] at h1; exact wpAnyIn_of_factsT ht hZ f _ ks a w hw ha hst h1
    · rename_i o ho
      simp only [ho] at h1
      unfold fStep at h1
      split
      · rename_i hwd
        simp only [hwd, if_true] at h1
        obtain ⟨hg, hK⟩ := h1
        have hg' := hg w hw (Known.all_for ha)
        have go : ∀ x w', E w w' → (Fs i).R x w' → wpAnyIn Fence.wide m P md ops Q' (f + g) (listed.setIfInBounds i true) (a.put o.dst ((Fs i).val x)) w' := fun x w' he hR =>
          wpAnyIn_of_factsT ht hZ f _ _ _ w' (ht _ _ _ hw he) (fun k hk => by
            rcases List.mem_cons.1 hk with rfl | hk
            · exact hR
            · exact hst k hk _ _ (ha k hk) he) (fun k hk => by
            rcases List.mem_cons.1 hk with rfl | hk
            · exact (Fs i).stays x
            · exact hst k hk) (hK x)
        refine ⟨fun _ _ => trivial, ?_⟩
        rw [show Fence.wide.round = none from rfl, Oper.semAt_none]
        unfold gives at hg'
        generalize (execOp a.eval o).run P w = r at *
        cases r with
        | ok n w' =>
          cases n <;> simp only [givesUpon] at hg' <;> simp only [Oper.uponIn]
          case value u => obtain ⟨he, x, rfl, hR⟩ := hg'; exact go x w' he hR
          case skip => obtain ⟨he, x, hx, hR⟩ := hg'; rw [hx]; exact go x w' he hR
          case enter f args => exact ⟨(fun h => by cases h), (callsIn_wide.2 hg').mono fun e w'' ⟨he, x, hx, hR⟩ => by subst hx; exact go x w'' he hR⟩
        | halt x w' => simp only [givesUpon] at hg'
      · rename_i hwd
        simp only [hwd] at h1
        exact ⟨fun _ _ => trivial, wpAnyIn_of_factsT ht hZ f _ ks _ w hw ha hst h1⟩

/-- One walk in the text's order over the first n operations serves every order; the last ones are walked as a list, within the fence. -/
theorem wpIn_region_facts_tail {id : Nat} {Q : Exit → Act → World → Prop} {a : Act} {w : World} {l : List Oper} (n : Nat) (fs : List (Fact E)) (hm : P.follows .mixedOrders = true) (hB : Region.lexTailB .any l.toArray n = true)
    (ht : ∀ a b c, E a b → E b c → E a c) (hd : E w { w with drawn := w.drawn + 1 }) (h : wpF P l.toArray E w (fun a' w' => wpListIn Fence.wide m P l.toArray Q (l.drop n) a' w') (l.take n) fs [] a) : (Code.region id l.toArray true).wpIn Fence.wide m P Q a w := by
  simp only [Region.lexTailB, Bool.and_eq_true, decide_eq_true_eq] at hB
  obtain ⟨⟨⟨⟨hsel, hn⟩, hs⟩, hc⟩, hlex⟩ := hB
  have hn' : n < l.length := by simpa using hn
  have htl : (l.take n).length = n := by simp; omega
  have hdl : (l.drop n).length = l.toArray.size - n := by simp
  have inv0 : HeadInv .any l.toArray n (Array.replicate l.toArray.size false) :=
    ⟨by simp, fun j oj _ hl => (by rw [getD_replicate_false] at hl; cases hl), fun t _ ht => getD_in (by simpa using ht) (getD_replicate_false _ _)⟩
  have H := wpAnyFT_lex (P := P) (md := .any) (E := E) (W := w) (g := l.toArray.size - n) (Fs := fun i => (fs[i]?).getD ⟨Unit, (), fun _ => undef, fun _ _ => True, fun _ _ _ _ _ => trivial⟩) (Z := fun a' w' => wpListIn Fence.wide m P l.toArray Q (l.drop n) a' w') hsel hs hc hn (l.take n) 0 fs _ [] a (fun j hj => by
    have hj' : j < n := by rw [htl] at hj; exact hj
    simp [hj']) (fun j F hj => by simp only [Nat.zero_add, hj, Option.getD_some]) (by simpa using htl) inv0 (by rw [htl]; exact hlex) h
  refine wpIn_region_any hm ?_
  have := wpAnyIn_of_factsT (m := m) (Q' := Q) ht (fun listed a' w' hseq hL => by
    have := wpAnyIn_of_seqW (m := m) (md := .any) (Q' := Q) (l.drop n) n listed a' w' (fun j => by simp [List.getElem?_drop]) (by rw [hdl]; exact hseq) hL
    rwa [hdl] at this) _ _ _ _ { w with drawn := w.drawn + 1 } hd (fun k hk => by cases hk) (fun k hk => by cases hk) H
  rw [htl, show n + (l.toArray.size - n) = l.toArray.size by omega] at this
  exact this
end
end Go.Proofs.Ytnnkioekjobbmaa
