/-
  A region that draws its order, whose first n operations are each told by a fact that stays true as the world grows, and whose last ones come in one forced order behind all of these: one walk in the text's order, and the last ones as a list.
-/
import Derived.Test.YtnnkioekjobbmaaFacts
import Derived.StillTail
namespace Go.Proofs.Ytnnkioekjobbmaa
open Go.RowKit
set_option linter.unusedVariables false

section
variable {P : Program} {md : Region.Mode} {ops : Array Oper} {E : World → World → Prop} {W : World}

def wpAnyFT (P : Program) (md : Region.Mode) (ops : Array Oper) (E : World → World → Prop) (W : World) (n g : Nat) (Fs : Nat → Fact E) (Z : Act → World → Prop) : Nat → Array Bool → Known → Act → Prop
  | 0, listed, ks, a => Region.seqB md ops g n listed = true ∧ ∀ w, E W w → ks.all w → Z a w
  | f + 1, listed, ks, a => Region.ready md ops listed ≠ [] ∧ ∀ i ∈ Region.ready md ops listed, i < n ∧ fOp P ops E W Fs i (wpAnyFT P md ops E W n g Fs Z f (listed.setIfInBounds i true)) ks a

theorem wpAnyFT_more {n g : Nat} {Fs : Nat → Fact E} {Z : Act → World → Prop} : ∀ (f : Nat) (listed : Array Bool) (ks ks' : Known) (a : Act), (∀ k ∈ ks, k ∈ ks') → wpAnyFT P md ops E W n g Fs Z f listed ks a → wpAnyFT P md ops E W n g Fs Z f listed ks' a
  | 0, _, _, _, _, hk, h => ⟨h.1, fun w hw ha => h.2 w hw fun k hk' => ha k (hk k hk')⟩
  | f + 1, listed, ks, ks', a, hk, h => by
    refine ⟨h.1, fun i hi => ⟨(h.2 i hi).1, ?_⟩⟩
    have h1 := (h.2 i hi).2
    unfold fOp at *
    split
    · rename_i ho; simp only [ho] at h1; exact wpAnyFT_more f _ ks ks' a hk h1
    · rename_i o ho
      simp only [ho] at h1
      unfold fStep at *
      split
      · rename_i hw
        simp only [hw, if_true] at h1
        refine ⟨fun w hw' hf => h1.1 w hw' fun k hk' => hf k (hk k hk'), fun x => wpAnyFT_more f _ _ _ _ (fun k hk' => ?_) (h1.2 x)⟩
        rcases List.mem_cons.1 hk' with rfl | hk'
        · exact List.mem_cons_self
        · exact List.mem_cons_of_mem _ (hk k hk')
      · rename_i hw
        simp only [hw] at h1
        exact wpAnyFT_more f _ ks ks' _ hk h1

theorem wpAnyFT_first {n g : Nat} {Fs : Nat → Fact E} {Z : Act → World → Prop} {i : Nat} {oi : Oper} (hi : ops[i]? = some oi) (hsel : ∀ (j : Nat) (o : Oper) cs b, ops[j]? = some o → o.op ≠ .select cs b)
    (hs : Region.sinkB md ops n = true) (hc : Region.chainB md ops n = true) (hn : n < ops.size) (hin : i < n) :
    ∀ (fuel : Nat) (listed : Array Bool) (ks : Known) (a : Act), HeadInv md ops n listed →
      (∀ j oj, ops[j]? = some oj → j ≠ i → listed.getD j true = false → (∀ e ∈ oj.after, Region.binds md e = true → e.on ≠ i) → oi.apart ops oj = true) →
      i ∈ Region.ready md ops listed → fStep P ops E W (Fs i) oi (wpAnyFT P md ops E W n g Fs Z fuel (listed.setIfInBounds i true)) ks a → wpAnyFT P md ops E W n g Fs Z (fuel + 1) listed ks a := by
  intro fuel
  induction fuel with
  | zero =>
    intro listed ks a inv _ hr H
    have hun := (mem_ready.1 hr).1
    refine ⟨fun h => (by rw [h] at hr; cases hr), fun j hj => ?_⟩
    have hjn : j < n := by
      rcases Nat.lt_or_ge j n with h | h
      · exact h
      · exact absurd hj (tail_waits hs hc hn inv _ i rfl hin hun j h)
    refine ⟨hjn, ?_⟩
    by_cases hji : j = i
    · subst hji; unfold fOp; simp only [hi]; exact H
    · have hseq : Region.seqB md ops g n (listed.setIfInBounds i true) = true := by
        unfold fStep at H
        split at H
        · exact (H.2 (Fs i).x0).1
        · exact H.1
      have := seqB_ready hseq j (ready_mono hj hji)
      omega
  | succ fuel ih =>
    intro listed ks a inv hfree hr H
    have hun := (mem_ready.1 hr).1
    refine ⟨fun h => (by rw [h] at hr; cases hr), fun j hj => ?_⟩
    have hjn : j < n := by
      rcases Nat.lt_or_ge j n with h | h
      · exact h
      · exact absurd hj (tail_waits hs hc hn inv _ i rfl hin hun j h)
    refine ⟨hjn, ?_⟩
    by_cases hji : j = i
    · subst hji; unfold fOp; simp only [hi]; exact H
    · have hjr := ready_mono hj hji
      obtain ⟨hjun, oj, hoj, hall⟩ := mem_ready.1 hj
      have hnot : ∀ e ∈ oj.after, Region.binds md e = true → e.on ≠ i := fun e he hb heq => by
        have h1 := hall e he hb
        rw [heq, getD_both hun] at h1
        cases h1
      have hap := hfree j oj hoj hji hjun hnot
      obtain ⟨p1, p2, p3⟩ := Oper.apart_spec hap
      have hsi := fun cs b => hsel i oi cs b hi
      have hsj := fun cs b => hsel j oj cs b hoj
      have hfree' : ∀ k ok, ops[k]? = some ok → k ≠ i → (listed.setIfInBounds j true).getD k true = false →
          (∀ e ∈ ok.after, Region.binds md e = true → e.on ≠ i) → oi.apart ops ok = true := fun k ok hk hki hun hno => by
        refine hfree k ok hk hki ?_ hno
        by_cases hjk : j = k
        · subst hjk; exact hjun
        · rw [getD_set_ne true hjk] at hun; exact hun
      have hri := ready_mono hr (Ne.symm hji)
      have inv' := inv.set hj hjn
      unfold fOp
      simp only [hoj]
      by_cases hwi : Region.wanted oi (yielded ops a.tmps) = true
      · unfold fStep at H
        simp only [hwi, if_true] at H
        obtain ⟨hgi, hK⟩ := H
        have hJ : ∀ x, fStep P ops E W (Fs j) oj (wpAnyFT P md ops E W n g Fs Z fuel ((listed.setIfInBounds i true).setIfInBounds j true)) ((oi.dst, (Fs i).R x) :: ks) (a.put oi.dst ((Fs i).val x)) := fun x => by
          have := ((hK x).2 j hjr).2
          unfold fOp at this
          simp only [hoj] at this
          exact this
        unfold fStep
        by_cases hwj : Region.wanted oj (yielded ops a.tmps) = true
        · simp only [hwj, if_true]
          have hJ' : ∀ x, (∀ w, E W w → Known.for ((oi.dst, (Fs i).R x) :: ks) (oj.looksAt ops) w → gives P (Fs j) oj (a.put oi.dst ((Fs i).val x)).eval w) ∧
              ∀ y, wpAnyFT P md ops E W n g Fs Z fuel ((listed.setIfInBounds i true).setIfInBounds j true) ((oj.dst, (Fs j).R y) :: (oi.dst, (Fs i).R x) :: ks) ((a.put oi.dst ((Fs i).val x)).put oj.dst ((Fs j).val y)) := fun x => by
            have := hJ x
            unfold fStep at this
            rw [wanted_put oj a oi.dst _ p1] at this
            simp only [hwj, if_true] at this
            exact this
          refine ⟨fun w hw hf => ?_, fun y => ih _ _ _ inv' hfree' hri ?_⟩
          · have := (hJ' (Fs i).x0).1 w hw (known_other p1 hf)
            unfold gives at *
            rwa [execOp_put oj hsj a oi.dst _ p1] at this
          · unfold fStep
            rw [wanted_put oi a oj.dst _ p3]
            simp only [hwi, if_true]
            refine ⟨fun w hw hf => ?_, fun x => ?_⟩
            · have := hgi w hw (known_less hf)
              unfold gives at *
              rwa [execOp_put oi hsi a oj.dst _ p3]
            · have := (hJ' x).2 y
              rw [Array.setIfInBounds_comm _ _ hji, ← Act.put_comm a _ _ p2]
              exact wpAnyFT_more _ _ _ _ _ (known_swap _ _ _) this
        · simp only [hwj]
          have hJ' : ∀ x, wpAnyFT P md ops E W n g Fs Z fuel ((listed.setIfInBounds i true).setIfInBounds j true) ((oi.dst, (Fs i).R x) :: ks) ((a.put oi.dst ((Fs i).val x)).put oj.dst undef) := fun x => by
            have := hJ x
            unfold fStep at this
            rw [wanted_put oj a oi.dst _ p1] at this
            simp only [hwj] at this
            exact this
          refine ih _ _ _ inv' hfree' hri ?_
          unfold fStep
          rw [wanted_put oi a oj.dst _ p3]
          simp only [hwi, if_true]
          refine ⟨fun w hw hf => ?_, fun x => ?_⟩
          · have := hgi w hw hf
            unfold gives at *
            rwa [execOp_put oi hsi a oj.dst _ p3]
          · rw [Array.setIfInBounds_comm _ _ hji, ← Act.put_comm a _ _ p2]
            exact hJ' x
      · unfold fStep at H
        simp only [hwi] at H
        have hJ : fStep P ops E W (Fs j) oj (wpAnyFT P md ops E W n g Fs Z fuel ((listed.setIfInBounds i true).setIfInBounds j true)) ks (a.put oi.dst undef) := by
          have := (H.2 j hjr).2
          unfold fOp at this
          simp only [hoj] at this
          exact this
        unfold fStep at *
        rw [wanted_put oj a oi.dst _ p1] at hJ
        by_cases hwj : Region.wanted oj (yielded ops a.tmps) = true
        · simp only [hwj, if_true] at *
          refine ⟨fun w hw hf => ?_, fun y => ih _ _ _ inv' hfree' hri ?_⟩
          · have := hJ.1 w hw hf
            unfold gives at *
            rwa [execOp_put oj hsj a oi.dst _ p1] at this
          · rw [wanted_put oi a oj.dst _ p3]
            simp only [hwi]
            have := hJ.2 y
            rw [Array.setIfInBounds_comm _ _ hji, ← Act.put_comm a _ _ p2]
            exact this
        · simp only [hwj] at *
          refine ih _ _ _ inv' hfree' hri ?_
          rw [wanted_put oi a oj.dst _ p3]
          simp only [hwi]
          rw [Array.setIfInBounds_comm _ _ hji, ← Act.put_comm a _ _ p2]
          exact hJ

theorem wpAnyFT_lex {n g : Nat} {Fs : Nat → Fact E} {Z : Act → World → Prop} (hsel : Region.noSelect ops = true) (hs : Region.sinkB md ops n = true) (hc : Region.chainB md ops n = true) (hn : n < ops.size) :
    ∀ (l : List Oper) (k : Nat) (fs : List (Fact E)) (listed : Array Bool) (ks : Known) (a : Act), (∀ j, j < l.length → l[j]? = ops[k + j]?) → (∀ j F, fs[j]? = some F → Fs (k + j) = F) → k + l.length = n → HeadInv md ops n listed →
      Region.lexHead md ops g l.length k listed = true → wpF P ops E W Z l fs ks a → wpAnyFT P md ops E W n g Fs Z l.length listed ks a
  | [], k, fs, listed, ks, a, _, _, hk, _, hB, h => by
    have : k = n := by simpa using hk
    subst this
    refine ⟨by simpa [Region.lexHead] using hB, ?_⟩
    unfold wpF at h
    exact h
  | o :: l, k, [], listed, ks, a, hl, hF, hk, inv, hB, h => h.elim
  | o :: l, k, F :: fs, listed, ks, a, hl, hF, hk, inv, hB, h => by
    have h0 : ops[k]? = some o := by simpa using (hl 0 (by simp)).symm
    have hF0 : Fs k = F := by simpa using hF 0 F rfl
    simp only [List.length_cons, Region.lexHead, Bool.and_eq_true] at hB
    obtain ⟨⟨hr, hf⟩, hB'⟩ := hB
    have hkn : k < n := by simp only [List.length_cons] at hk; omega
    have hr' : k ∈ Region.ready md ops listed := by simpa using hr
    refine wpAnyFT_first h0 (Region.noSelect_spec hsel) hs hc hn hkn l.length listed ks a inv (Region.free_spec h0 hf) hr' ?_
    rw [hF0]
    exact fStep_mono (fun ks a h => wpAnyFT_lex hsel hs hc hn l (k + 1) fs _ ks a (fun j hj => by have := hl (j + 1) (by simp; omega); simpa [Nat.add_assoc, Nat.add_comm 1 j] using this)
      (fun j F' hj => by have := hF (j + 1) F' (by simpa using hj); simpa [Nat.add_assoc, Nat.add_comm 1 j] using this) (by simp only [List.length_cons] at hk; omega) (inv.set hr' hkn) hB' h) h

theorem wpAny_of_factsT {n g : Nat} {Fs : Nat → Fact E} {Z : Act → World → Prop} {Q' : Exit → Act → World → Prop} (ht : ∀ a b c, E a b → E b c → E a c) (hZ : ∀ listed a w, Region.seqB md ops g n listed = true → Z a w → wpAny P md ops Q' g listed a w) :
    ∀ (f : Nat) (listed : Array Bool) (ks : Known) (a : Act) (w : World), E W w → ks.all w → (∀ k ∈ ks, ∀ w w', k.2 w → E w w' → k.2 w') → wpAnyFT P md ops E W n g Fs Z f listed ks a → wpAny P md ops Q' (f + g) listed a w
  | 0, listed, ks, a, w, hw, ha, _, h => by rw [Nat.zero_add]; exact hZ _ _ _ h.1 (h.2 w hw ha)
  | f + 1, listed, ks, a, w, hw, ha, hst, h => by
    rw [show f + 1 + g = (f + g) + 1 by omega]
    refine ⟨fun h0 => absurd h0 h.1, fun i hi => ?_⟩
    have h1 := (h.2 i hi).2
    unfold fOp at h1
    unfold wpOp
    split
    · rename_i ho; simp only [ho] at h1; exact wpAny_of_factsT ht hZ f _ ks a w hw ha hst h1
    · rename_i o ho
      simp only [ho] at h1
      unfold fStep at h1
      split
      · rename_i hwd
        simp only [hwd, if_true] at h1
        obtain ⟨hg, hK⟩ := h1
        have hg' := hg w hw (Known.all_for ha)
        have go : ∀ x w', E w w' → (Fs i).R x w' → wpAny P md ops Q' (f + g) (listed.setIfInBounds i true) (a.put o.dst ((Fs i).val x)) w' := fun x w' he hR =>
          wpAny_of_factsT ht hZ f _ _ _ w' (ht _ _ _ hw he) (fun k hk => by
            rcases List.mem_cons.1 hk with rfl | hk
            · exact hR
            · exact hst k hk _ _ (ha k hk) he) (fun k hk => by
            rcases List.mem_cons.1 hk with rfl | hk
            · exact (Fs i).stays x
            · exact hst k hk) (hK x)
        left
        unfold gives at hg'
        unfold Oper.wp
        generalize (execOp a.eval o).run P w = r at *
        cases r with
        | ok n w' =>
          cases n <;> simp only [givesUpon] at hg' <;> simp only [Oper.upon]
          case value u => obtain ⟨he, x, rfl, hR⟩ := hg'; exact go x w' he hR
          case skip => obtain ⟨he, x, hx, hR⟩ := hg'; rw [hx]; exact go x w' he hR
          case enter f args => exact hg'.mono fun e w'' ⟨he, x, hx, hR⟩ => by subst hx; exact go x w'' he hR
        | halt x w' => simp only [givesUpon] at hg'
      · rename_i hwd
        simp only [hwd] at h1
        exact wpAny_of_factsT ht hZ f _ ks _ w hw ha hst h1

/-- One walk in the text's order over the first n operations serves every order; the last ones are walked as a list. -/
theorem wp_region_facts_tail {id : Nat} {Q : Exit → Act → World → Prop} {a : Act} {w : World} {l : List Oper} (n : Nat) (fs : List (Fact E)) (hm : P.follows .mixedOrders = true) (hB : Region.lexTailB .any l.toArray n = true)
    (ht : ∀ a b c, E a b → E b c → E a c) (hd : E w { w with drawn := w.drawn + 1 }) (h : wpF P l.toArray E w (fun a' w' => wpList P l.toArray Q (l.drop n) a' w') (l.take n) fs [] a) : (Code.region id l.toArray true).wp P Q a w := by
  simp only [Region.lexTailB, Bool.and_eq_true, decide_eq_true_eq] at hB
  obtain ⟨⟨⟨⟨hsel, hn⟩, hs⟩, hc⟩, hlex⟩ := hB
  have hn' : n < l.length := by simpa using hn
  have htl : (l.take n).length = n := by simp; omega
  have hdl : (l.drop n).length = l.toArray.size - n := by simp
  have inv0 : HeadInv .any l.toArray n (Array.replicate l.toArray.size false) :=
    ⟨by simp, fun j oj _ hl => (by rw [getD_replicate_false] at hl; cases hl), fun t _ ht => getD_in (by simpa using ht) (getD_replicate_false _ _)⟩
  have H := wpAnyFT_lex (P := P) (md := .any) (E := E) (W := w) (g := l.toArray.size - n) (Fs := fun i => (fs[i]?).getD ⟨Unit, (), fun _ => undef, fun _ _ => True, fun _ _ _ _ _ => trivial⟩) (Z := fun a' w' => wpList P l.toArray Q (l.drop n) a' w') hsel hs hc hn (l.take n) 0 fs _ [] a (fun j hj => by
    have hj' : j < n := by rw [htl] at hj; exact hj
    simp [hj']) (fun j F hj => by simp only [Nat.zero_add, hj, Option.getD_some]) (by simpa using htl) inv0 (by rw [htl]; exact hlex) h
  refine wp_region_any hm ?_
  have := wpAny_of_factsT (Q' := Q) ht (fun listed a' w' hseq hL => by
    have := wpAny_of_seq (md := .any) (Q' := Q) (l.drop n) n listed a' w' (fun j => by simp [List.getElem?_drop]) (by rw [hdl]; exact hseq) hL
    rwa [hdl] at this) _ _ _ _ { w with drawn := w.drawn + 1 } hd (fun k hk => by cases hk) (fun k hk => by cases hk) H
  rw [htl, show n + (l.toArray.size - n) = l.toArray.size by omega] at this
  exact this
end
end Go.Proofs.Ytnnkioekjobbmaa
