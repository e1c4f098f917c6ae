/-
  The law of a drawn region whose operations are jobs, in a round of a range over a function.
-/
import Derived.Test.YtnnkioekjobbmaaJobSteps
import Derived.RangeFuncCalls
namespace Go.Proofs.Ytnnkioekjobbmaa
open Go.RowKit
set_option linter.unusedVariables false

section
variable {P : Program} {md : Region.Mode} {ops : Array Oper} {G E : World → World → Prop} {W : World} {m lr : Nat}

theorem wpAnyIn_of_seqR {Q' : Exit → Act → World → Prop} : ∀ (l : List Oper) (k : Nat) (listed : Array Bool) (a : Act) (w : World), (∀ j, l[j]? = ops[k + j]?) →
    Region.seqB md ops l.length k listed = true → wpListIn (Fence.wide.inRound lr) m P ops Q' l a w → wpAnyIn (Fence.wide.inRound lr) m P md ops Q' l.length listed a w
  | [], _, _, _, _, _, hB, h => ⟨by simpa [Region.seqB] using hB, h⟩
  | o :: l, k, listed, a, w, hl, hB, h => by
    have h0 : ops[k]? = some o := by simpa using (hl 0).symm
    simp only [List.length_cons, Region.seqB, Bool.and_eq_true, decide_eq_true_eq] at hB
    refine ⟨fun h1 => (by rw [hB.1] at h1; cases h1), fun i hi => ?_⟩
    rw [hB.1] at hi
    have hik : i = k := by simpa using hi
    subst hik
    have hw : wpOpIn (Fence.wide.inRound lr) m P ops Q' i (wpListIn (Fence.wide.inRound lr) m P ops Q' l) a w := by unfold wpOpIn; simp only [h0]; exact h
    exact wpOpIn_mono (fun a' w' h' => wpAnyIn_of_seqR l (i + 1) _ a' w' (fun j => by have := hl (j + 1); simpa [Nat.add_assoc, Nat.add_comm 1 j] using this) hB.2 h') hw

theorem wpAnyIn_of_jobsR (hnd : ∀ (i : Nat) o, ops[i]? = some o → ∀ c, o.op ≠ .defer c) {n g : Nat} {Js : Nat → Job G E} {Z : Act → World → Prop} {Q' : Exit → Act → World → Prop} (hGE : ∀ a b, G a b → E a b) (ht : ∀ a b c, E a b → E b c → E a c) (hZ : ∀ listed a w, Region.seqB md ops g n listed = true → Z a w → wpAnyIn (Fence.wide.inRound lr) m P md ops Q' g listed a w) :
    ∀ (f : Nat) (listed : Array Bool) (ks : Known) (C : World → Prop) (a : Act) (w : World), E W w → ks.all w → C w → (∀ k ∈ ks, ∀ w w', k.2 w → E w w' → k.2 w') → (∀ w w', C w → G w w' → C w') → wpAnyJT P md ops W n g Js Z f listed ks C a → wpAnyIn (Fence.wide.inRound lr) m P md ops Q' (f + g) listed a w
  | 0, listed, ks, C, a, w, hw, ha, hCw, _, _, h => by rw [Nat.zero_add]; exact hZ _ _ _ h.1 (h.2 w hw ha hCw)
  | f + 1, listed, ks, C, a, w, hw, ha, hCw, hst, hcl, h => by
    rw [show f + 1 + g = (f + g) + 1 by omega]
    refine ⟨fun h0 => absurd h0 h.1, fun i hi => ?_⟩
    have h1 := (h.2 i hi).2
    unfold jOp at h1
    unfold wpOpIn
    split
    · rename_i ho; simp only [ho] at h1; exact wpAnyIn_of_jobsR hnd hGE ht hZ f _ ks C a w hw ha hCw hst hcl h1
    · rename_i o ho
      simp only [ho] at h1
      unfold jStep at h1
      split
      · rename_i hwd
        simp only [hwd, if_true] at h1
        obtain ⟨hg, hK⟩ := h1
        have hg' := hg w hw (Known.all_for ha) (fun _ => hCw)
        have go : ∀ x w', (Js i).left x w w' → wpAnyIn (Fence.wide.inRound lr) m P md ops Q' (f + g) (listed.setIfInBounds i true) (a.put o.dst ((Js i).val x)) w' := fun x w' hlf => by
          obtain ⟨hR, h1, h2⟩ := hlf
          have he : E w w' := by
            cases hu : (Js i).wr
            · exact hGE _ _ (h2 hu)
            · exact (h1 hu).1
          refine wpAnyIn_of_jobsR hnd hGE ht hZ f _ _ _ _ w' (ht _ _ _ hw he) (fun k hk => by
            rcases List.mem_cons.1 hk with rfl | hk
            · exact hR
            · exact hst k hk _ _ (ha k hk) he) ?_ (fun k hk => by
            rcases List.mem_cons.1 hk with rfl | hk
            · exact (Js i).stays x
            · exact hst k hk) ?_ (hK x)
          · cases hu : (Js i).wr
            · rw [Job.cls_off hu]; exact hcl _ _ hCw (h2 hu)
            · rw [Job.cls_on hu]; exact (h1 hu).2
          · cases hu : (Js i).wr
            · rw [Job.cls_off hu]; exact hcl
            · rw [Job.cls_on hu]; exact (Js i).closed x
        refine ⟨fun _ _ => trivial, ?_⟩
        rw [show (Fence.wide.inRound lr).round = some lr from rfl, Oper.semAt_some lr _ _ (hnd i o ho)]
        generalize (execOp a.eval o).run P w = r at *
        cases r with
        | ok n w' =>
          cases n <;> simp only [givesJ] at hg' <;> simp only [Oper.uponIn]
          case value u => obtain ⟨x, rfl, hR⟩ := hg'; exact go x w' hR
          case skip => obtain ⟨x, hx, hR⟩ := hg'; rw [hx]; exact go x w' hR
          case enter f args => exact ⟨(fun h => by cases h), (CallsIn.inRound lr (callsIn_wide.2 hg')).mono fun e w'' ⟨x, hx, hR⟩ => by subst hx; exact go x w'' hR⟩
        | halt x w' => simp only [givesJ] at hg'
      · rename_i hwd
        simp only [hwd] at h1
        exact ⟨fun _ _ => trivial, wpAnyIn_of_jobsR hnd hGE ht hZ f _ ks C _ w hw ha hCw hst hcl h1⟩

/-- One walk in the text's order over the first n operations serves every order; the last ones are walked as a list, in a round. -/
theorem wpIn_round_jobs {id : Nat} {Q : Exit → Act → World → Prop} {a : Act} {w : World} {l : List Oper} (n : Nat) (js : List (Job G E)) (us : List (Bool × Bool)) (C : World → Prop) (hus : us = js.map fun J => (J.rd, J.wr)) (hm : P.follows .mixedOrders = true) (hB : (Region.lexTailB .any l.toArray n && usesB .any l.toArray us) = true)
    (hnd : (l.all fun o => match o.op with | .defer _ => false | _ => true) = true) (hGE : ∀ a b, G a b → E a b) (ht : ∀ a b c, E a b → E b c → E a c) (hd : E w { w with drawn := w.drawn + 1 }) (hC : C { w with drawn := w.drawn + 1 }) (hcl : ∀ w w', C w → G w w' → C w')
    (h : wpJ (G := G) (E := E) P l.toArray w (fun a' w' => wpListIn (Fence.wide.inRound lr) m P l.toArray Q (l.drop n) a' w') (l.take n) js [] C a) : (Code.region id l.toArray true).wpIn (Fence.wide.inRound lr) m P Q a w := by
  simp only [Region.lexTailB, Bool.and_eq_true, decide_eq_true_eq] at hB
  obtain ⟨⟨⟨⟨⟨hsel, hn⟩, hs⟩, hc⟩, hlex⟩, huB⟩ := hB
  have hn' : n < l.length := by simpa using hn
  have htl : (l.take n).length = n := by simp; omega
  have hdl : (l.drop n).length = l.toArray.size - n := by simp
  have inv0 : HeadInv .any l.toArray n (Array.replicate l.toArray.size false) :=
    ⟨by simp, fun j oj _ hl => (by rw [getD_replicate_false] at hl; cases hl), fun t _ ht => getD_in (by simpa using ht) (getD_replicate_false _ _)⟩
  have hgd : ∀ i, (((js[i]?).getD Job.none).rd, ((js[i]?).getD Job.none).wr) = us.getD i (false, false) := fun i => by
    subst hus
    rw [List.getD_eq_getElem?_getD, List.getElem?_map]
    cases js[i]? <;> rfl
  have H := wpAnyJT_lex (P := P) (md := .any) (W := w) (g := l.toArray.size - n) (Js := fun i => (js[i]?).getD Job.none) (Z := fun a' w' => wpListIn (Fence.wide.inRound lr) m P l.toArray Q (l.drop n) a' w') hsel hs hc hn
    (fun i j hij h1 => usesB_spec huB hij (by rw [← hgd, ← hgd]; exact h1)) (l.take n) 0 js _ [] C a (fun j hj => by
    have hj' : j < n := by rw [htl] at hj; exact hj
    simp [hj']) (fun j F hj => by simp only [Nat.zero_add, hj, Option.getD_some]) (by simpa using htl) inv0 (fun j hj => absurd hj (Nat.not_lt_zero j)) (by rw [htl]; exact hlex) h
  have hnd' : ∀ (i : Nat) o, l.toArray[i]? = some o → ∀ c, o.op ≠ .defer c := fun i o ho c hc => by
    have := List.all_eq_true.1 hnd o (List.mem_of_getElem? (by simpa using ho))
    simp [hc] at this
  refine wpIn_region_any hm ?_
  have := wpAnyIn_of_jobsR (m := m) (Q' := Q) hnd' hGE ht (fun listed a' w' hseq hL => by
    have := wpAnyIn_of_seqR (m := m) (md := .any) (Q' := Q) (l.drop n) n listed a' w' (fun j => by simp [List.getElem?_drop]) (by rw [hdl]; exact hseq) hL
    rwa [hdl] at this) _ _ _ _ _ { w with drawn := w.drawn + 1 } hd (fun k hk => by cases hk) hC (fun k hk => by cases hk) hcl H
  rw [htl, show n + (l.toArray.size - n) = l.toArray.size by omega] at this
  exact this
end

/-- A new block of cells, which no job writes, by its address. -/
def newJob' (own : Nat → Prop) (N : Nat) (t : TypeId) (cs : Array Value) : Job Grows (Spares own) :=
  ⟨Nat, 0, fun g => .pointer (some ⟨g, 0, none⟩), fun g w => Whole w g t cs ∧ ¬ own g ∧ N ≤ g, fun _ _ _ h g => ⟨(g.same _ h.1.lt h.2.1).trans h.1, h.2⟩, false, false, fun _ _ => True, fun _ _ _ _ _ => trivial⟩
section
variable {own : Nat → Prop} {P : Program} {ops : Array Oper} {W : World} {Q : Act → World → Prop} {o : Oper} {rest : List Oper} {js : List (Job Grows (Spares own))} {ks : Known} {C : World → Prop} {a : Act}
theorem j_new (t : TypeId) (cs : Array Value) (hown : ∀ k, own k → k < W.heap.size) (hw : Region.wanted o (yielded ops a.tmps) = true) (h1 : ∀ w, Spares own W w → (execOp a.eval o).run P w = .ok (.value (.pointer (some ⟨w.heap.size, 0, none⟩))) (w.alloc (.cells cs t)))
    (h2 : ∀ g, wpJ P ops W Q rest js ((o.dst, fun w => Whole w g t cs ∧ ¬ own g ∧ W.heap.size ≤ g) :: ks) C (a.put o.dst (.pointer (some ⟨g, 0, none⟩)))) :
    wpJ P ops W Q (o :: rest) (newJob' own W.heap.size t cs :: js) ks C a := by
  unfold wpJ jStep
  rw [if_pos hw]
  refine ⟨fun w hW hk _ => ?_, fun g => h2 g⟩
  rw [h1 w hW]
  exact ⟨w.heap.size, rfl, ⟨Whole.made _ _ _, (fun h => by have := hown _ h; have := hW.size; omega), hW.size⟩, (fun h => by cases h), fun _ => grows_alloc _ _⟩
end
end Go.Proofs.Ytnnkioekjobbmaa
