/-
  Regions that draw their order and whose operations make new memory: one walk in the text's order serves every order, if each operation's outcome is told by a fact that stays true as the world grows (its value may hang on where the new memory came to lie).
-/
import Derived.Test.YtnnkioekjobbmaaQuiet
namespace Go.Proofs.Ytnnkioekjobbmaa
open Go.RowKit

/-- What an operation leaves in its slot: a value made of some x, of which R is known then, and in each world behind. -/
structure Fact (E : World → World → Prop) where
  α : Type
  x0 : α
  val : α → Value
  R : α → World → Prop
  stays : ∀ x w w', R x w → E w w' → R x w'

/-- What is known, and of which slot. -/
abbrev Known := List (Option Tmp × (World → Prop))
def Known.all (ks : Known) (w : World) : Prop := ∀ k ∈ ks, k.2 w
/-- What is known of the slots that an operation looks at. -/
def Known.for (ks : Known) (ls : List Tmp) (w : World) : Prop := ∀ k ∈ ks, (∃ d, k.1 = some d ∧ d ∈ ls) → k.2 w
theorem Known.all_for {ks : Known} {ls : List Tmp} {w : World} (h : ks.all w) : ks.for ls w := fun k hk _ => h k hk

section
variable {P : Program} {ops : Array Oper} {md : Region.Mode} {E : World → World → Prop} {W : World}

def givesUpon (P : Program) (F : Fact E) (w : World) : Result Next → Prop
  | .ok (.value u) w' => E w w' ∧ ∃ x, u = F.val x ∧ F.R x w'
  | .ok .skip w' => E w w' ∧ ∃ x, undef = F.val x ∧ F.R x w'
  | .ok (.enter f args) w' => Calls P f args w' fun e w'' => E w w'' ∧ ∃ x, e = .returned (F.val x) ∧ F.R x w''
  | _ => False
def gives (P : Program) (F : Fact E) (o : Oper) (ρ : Operand → Value) (w : World) : Prop := givesUpon P F w ((execOp ρ o).run P w)

/-- One operation, whatever stands behind it. -/
def fStep (P : Program) (ops : Array Oper) (E : World → World → Prop) (W : World) (F : Fact E) (o : Oper) (K : Known → Act → Prop) (ks : Known) (a : Act) : Prop :=
  if Region.wanted o (yielded ops a.tmps) then (∀ w, E W w → ks.for (o.looksAt ops) w → gives P F o a.eval w) ∧ ∀ x, K ((o.dst, F.R x) :: ks) (a.put o.dst (F.val x)) else K ks (a.put o.dst undef)
def fOp (P : Program) (ops : Array Oper) (E : World → World → Prop) (W : World) (Fs : Nat → Fact E) (i : Nat) (K : Known → Act → Prop) (ks : Known) (a : Act) : Prop :=
  match ops[i]? with
  | none => K ks a
  | some o => fStep P ops E W (Fs i) o K ks a

theorem fStep_mono {F : Fact E} {o : Oper} {K K' : Known → Act → Prop} {ks : Known} {a : Act} (h : ∀ ks a, K ks a → K' ks a) (hh : fStep P ops E W F o K ks a) : fStep P ops E W F o K' ks a := by
  unfold fStep at *
  split
  · rename_i hw; simp only [hw, if_true] at hh; exact ⟨hh.1, fun x => h _ _ (hh.2 x)⟩
  · rename_i hw; simp only [hw] at hh; exact h _ _ hh

/-- The walk in the text's order. -/
def wpF (P : Program) (ops : Array Oper) (E : World → World → Prop) (W : World) (Q : Act → World → Prop) : List Oper → List (Fact E) → Known → Act → Prop
  | [], _, ks, a => ∀ w, E W w → ks.all w → Q a w
  | _ :: _, [], _, _ => False
  | o :: rest, F :: Fs, ks, a => fStep P ops E W F o (wpF P ops E W Q rest Fs) ks a

def wpAnyF (P : Program) (md : Region.Mode) (ops : Array Oper) (E : World → World → Prop) (W : World) (Fs : Nat → Fact E) (Q : Act → World → Prop) : Nat → Array Bool → Known → Act → Prop
  | 0, listed, ks, a => Region.ready md ops listed = [] ∧ ∀ w, E W w → ks.all w → Q a w
  | fuel + 1, listed, ks, a =>
    (Region.ready md ops listed = [] → ∀ w, E W w → ks.all w → Q a w) ∧
    ∀ i ∈ Region.ready md ops listed, fOp P ops E W Fs i (wpAnyF P md ops E W Fs Q fuel (listed.setIfInBounds i true)) ks a

/-- Whoever knows more. -/
theorem wpAnyF_more {Fs : Nat → Fact E} {Q : Act → World → Prop} : ∀ (fuel : Nat) (listed : Array Bool) (ks ks' : Known) (a : Act), (∀ k ∈ ks, k ∈ ks') → wpAnyF P md ops E W Fs Q fuel listed ks a → wpAnyF P md ops E W Fs Q fuel listed ks' a
  | 0, _, _, _, _, hk, h => ⟨h.1, fun w hw ha => h.2 w hw fun k hk' => ha k (hk k hk')⟩
  | fuel + 1, listed, ks, ks', a, hk, h => by
    refine ⟨fun h0 w hw ha => h.1 h0 w hw fun k hk' => ha k (hk k hk'), fun i hi => ?_⟩
    have h1 := h.2 i hi
    unfold fOp at *
    split
    · rename_i ho; simp only [ho] at h1; exact wpAnyF_more fuel _ ks ks' a hk h1
    · rename_i o ho
      simp only [ho] at h1
      unfold fStep at *
      split
      · rename_i hw
        simp only [hw, if_true] at h1
        refine ⟨fun w hw' hf => h1.1 w hw' fun k hk' => hf k (hk k hk'), fun x => wpAnyF_more fuel _ _ _ _ (fun k hk' => ?_) (h1.2 x)⟩
        rcases List.mem_cons.1 hk' with rfl | hk'
        · exact List.mem_cons_self
        · exact List.mem_cons_of_mem _ (hk k hk')
      · rename_i hw
        simp only [hw] at h1
        exact wpAnyF_more fuel _ ks ks' _ hk h1

theorem known_other {ks : Known} {d : Option Tmp} {R : World → Prop} {ls : List Tmp} {w : World} (hd : ∀ t, d = some t → t ∉ ls) (h : ks.for ls w) : Known.for ((d, R) :: ks) ls w := fun k hk hd' => by
  rcases List.mem_cons.1 hk with rfl | hk
  · obtain ⟨t, h1, h2⟩ := hd'
    exact absurd h2 (hd t h1)
  · exact h k hk hd'
theorem known_less {ks : Known} {p : Option Tmp × (World → Prop)} {ls : List Tmp} {w : World} (h : Known.for (p :: ks) ls w) : ks.for ls w := fun k hk hd => h k (List.mem_cons_of_mem _ hk) hd
theorem known_swap (p q : Option Tmp × (World → Prop)) (ks : Known) : ∀ k ∈ p :: q :: ks, k ∈ q :: p :: ks := fun k hk => by
  simp only [List.mem_cons] at *
  rcases hk with h | h | h
  · exact .inr (.inl h)
  · exact .inl h
  · exact .inr (.inr h)

/-- An operation that may come up now may be taken first. -/
theorem wpAnyF_first {Fs : Nat → Fact E} {Q : Act → World → Prop} {i : Nat} {oi : Oper} (hi : ops[i]? = some oi) (hsel : ∀ (j : Nat) (o : Oper) cs b, ops[j]? = some o → o.op ≠ .select cs b) :
    ∀ (fuel : Nat) (listed : Array Bool) (ks : Known) (a : Act),
      (∀ j oj, ops[j]? = some oj → j ≠ i → listed.getD j true = false → (∀ e ∈ oj.after, Region.binds md e = true → e.on ≠ i) → oi.apart ops oj = true) →
      i ∈ Region.ready md ops listed → fStep P ops E W (Fs i) oi (wpAnyF P md ops E W Fs Q fuel (listed.setIfInBounds i true)) ks a → wpAnyF P md ops E W Fs Q (fuel + 1) listed ks a := by
  intro fuel
  induction fuel with
  | zero =>
    intro listed ks a _ hr H
    refine ⟨fun h => (by rw [h] at hr; cases hr), fun j hj => ?_⟩
    by_cases hji : j = i
    · subst hji; unfold fOp; simp only [hi]; exact H
    · have := ready_mono hj hji
      have hnil : Region.ready md ops (listed.setIfInBounds i true) = [] := by
        unfold fStep at H
        split at H
        · exact (H.2 (Fs i).x0).1
        · exact H.1
      rw [hnil] at this
      cases this
  | succ fuel ih =>
    intro listed ks a hfree hr H
    refine ⟨fun h => (by rw [h] at hr; cases hr), fun j hj => ?_⟩
    by_cases hji : j = i
    · subst hji; unfold fOp; simp only [hi]; exact H
    · have hjr := ready_mono hj hji
      obtain ⟨hjun, oj, hoj, hall⟩ := mem_ready.1 hj
      have hnot : ∀ e ∈ oj.after, Region.binds md e = true → e.on ≠ i := fun e he hb heq => by
        have h1 := hall e he hb
        have h0 := (mem_ready.1 hr).1
        rw [heq] at h1
        rcases Nat.lt_or_ge i listed.size with h' | h'
        · simp [h'] at h0 h1; rw [h0] at h1; cases h1
        · simp [Array.getElem?_eq_none h'] at h1
      have hap := hfree j oj hoj hji hjun hnot
      obtain ⟨p1, p2, p3⟩ := Oper.apart_spec hap
      have hsi := fun cs b => hsel i oi cs b hi
      have hsj := fun cs b => hsel j oj cs b hoj
      have hfree' : ∀ k ok, ops[k]? = some ok → k ≠ i → (listed.setIfInBounds j true).getD k true = false →
          (∀ e ∈ ok.after, Region.binds md e = true → e.on ≠ i) → oi.apart ops ok = true := fun k ok hk hki hun hno => by
        refine hfree k ok hk hki ?_ hno
        by_cases hjk : j = k
        · subst hjk; exact hjun
        · rw [getD_set_ne true hjk] at hun; exact hun
      have hri := ready_mono hr (Ne.symm hji)
      unfold fOp
      simp only [hoj]
      -- what is done behind j, i being done first
      by_cases hwi : Region.wanted oi (yielded ops a.tmps) = true
      · unfold fStep at H
        simp only [hwi, if_true] at H
        obtain ⟨hgi, hK⟩ := H
        have hJ : ∀ x, fStep P ops E W (Fs j) oj (wpAnyF P md ops E W Fs Q fuel ((listed.setIfInBounds i true).setIfInBounds j true)) ((oi.dst, (Fs i).R x) :: ks) (a.put oi.dst ((Fs i).val x)) := fun x => by
          have := (hK x).2 j hjr
          unfold fOp at this
          simp only [hoj] at this
          exact this
        unfold fStep
        by_cases hwj : Region.wanted oj (yielded ops a.tmps) = true
        · simp only [hwj, if_true]
          have hJ' : ∀ x, (∀ w, E W w → Known.for ((oi.dst, (Fs i).R x) :: ks) (oj.looksAt ops) w → gives P (Fs j) oj (a.put oi.dst ((Fs i).val x)).eval w) ∧
              ∀ y, wpAnyF P md ops E W Fs Q fuel ((listed.setIfInBounds i true).setIfInBounds j true) ((oj.dst, (Fs j).R y) :: (oi.dst, (Fs i).R x) :: ks) ((a.put oi.dst ((Fs i).val x)).put oj.dst ((Fs j).val y)) := fun x => by
            have := hJ x
            unfold fStep at this
            rw [wanted_put oj a oi.dst _ p1] at this
            simp only [hwj, if_true] at this
            exact this
          refine ⟨fun w hw hf => ?_, fun y => ih _ _ _ hfree' hri ?_⟩
          · have := (hJ' (Fs i).x0).1 w hw (known_other p1 hf)
            unfold gives at *
            rwa [execOp_put oj hsj a oi.dst _ p1] at this
          · unfold fStep
            rw [wanted_put oi a oj.dst _ p3]
            simp only [hwi, if_true]
            refine ⟨fun w hw hf => ?_, fun x => ?_⟩
            · have := hgi w hw (known_less hf)
              unfold gives at *
              rwa [execOp_put oi hsi a oj.dst _ p3]
            · have := (hJ' x).2 y
              rw [Array.setIfInBounds_comm _ _ hji, ← Act.put_comm a _ _ p2]
              exact wpAnyF_more _ _ _ _ _ (known_swap _ _ _) this
        · simp only [hwj]
          have hJ' : ∀ x, wpAnyF P md ops E W Fs Q fuel ((listed.setIfInBounds i true).setIfInBounds j true) ((oi.dst, (Fs i).R x) :: ks) ((a.put oi.dst ((Fs i).val x)).put oj.dst undef) := fun x => by
            have := hJ x
            unfold fStep at this
            rw [wanted_put oj a oi.dst _ p1] at this
            simp only [hwj] at this
            exact this
          refine ih _ _ _ hfree' hri ?_
          unfold fStep
          rw [wanted_put oi a oj.dst _ p3]
          simp only [hwi, if_true]
          refine ⟨fun w hw hf => ?_, fun x => ?_⟩
          · have := hgi w hw hf
            unfold gives at *
            rwa [execOp_put oi hsi a oj.dst _ p3]
          · rw [Array.setIfInBounds_comm _ _ hji, ← Act.put_comm a _ _ p2]
            exact hJ' x
      · unfold fStep at H
        simp only [hwi] at H
        have hJ : fStep P ops E W (Fs j) oj (wpAnyF P md ops E W Fs Q fuel ((listed.setIfInBounds i true).setIfInBounds j true)) ks (a.put oi.dst undef) := by
          have := H.2 j hjr
          unfold fOp at this
          simp only [hoj] at this
          exact this
        unfold fStep at *
        rw [wanted_put oj a oi.dst _ p1] at hJ
        by_cases hwj : Region.wanted oj (yielded ops a.tmps) = true
        · simp only [hwj, if_true] at *
          refine ⟨fun w hw hf => ?_, fun y => ih _ _ _ hfree' hri ?_⟩
          · have := hJ.1 w hw hf
            unfold gives at *
            rwa [execOp_put oj hsj a oi.dst _ p1] at this
          · rw [wanted_put oi a oj.dst _ p3]
            simp only [hwi]
            have := hJ.2 y
            rw [Array.setIfInBounds_comm _ _ hji, ← Act.put_comm a _ _ p2]
            exact this
        · simp only [hwj] at *
          refine ih _ _ _ hfree' hri ?_
          rw [wanted_put oi a oj.dst _ p3]
          simp only [hwi]
          rw [Array.setIfInBounds_comm _ _ hji, ← Act.put_comm a _ _ p2]
          exact hJ

theorem wpAnyF_lex {Fs : Nat → Fact E} {Q : Act → World → Prop} (hs : Region.noSelect ops = true) : ∀ (l : List Oper) (k : Nat) (fs : List (Fact E)) (listed : Array Bool) (ks : Known) (a : Act), (∀ j, l[j]? = ops[k + j]?) →
    (∀ j F, fs[j]? = some F → Fs (k + j) = F) → Region.lexFrom md ops l.length k listed = true → wpF P ops E W Q l fs ks a → wpAnyF P md ops E W Fs Q l.length listed ks a
  | [], _, _, _, _, _, _, _, hB, h => ⟨by simpa [Region.lexFrom] using hB, h⟩
  | o :: l, k, [], listed, ks, a, hl, hF, hB, h => h.elim
  | o :: l, k, F :: fs, listed, ks, a, hl, hF, hB, h => by
    have h0 : ops[k]? = some o := by simpa using (hl 0).symm
    have hF0 : Fs k = F := by simpa using hF 0 F rfl
    simp only [List.length_cons, Region.lexFrom, Bool.and_eq_true] at hB
    obtain ⟨⟨hr, hf⟩, hB'⟩ := hB
    refine wpAnyF_first h0 (Region.noSelect_spec hs) l.length listed ks a (Region.free_spec h0 hf) (by simpa using hr) ?_
    rw [hF0]
    exact fStep_mono (fun ks a h => wpAnyF_lex hs l (k + 1) fs _ ks a (fun j => by have := hl (j + 1); simpa [Nat.add_assoc, Nat.add_comm 1 j] using this)
      (fun j F' hj => by have := hF (j + 1) F' (by simpa using hj); simpa [Nat.add_assoc, Nat.add_comm 1 j] using this) hB' h) h

theorem wpAny_of_facts {Fs : Nat → Fact E} {Q : Act → World → Prop} {Q' : Exit → Act → World → Prop} (ht : ∀ a b c, E a b → E b c → E a c) (hQ : ∀ a w, Q a w → Q' .normal a w) :
    ∀ (fuel : Nat) (listed : Array Bool) (ks : Known) (a : Act) (w : World), E W w → ks.all w → (∀ k ∈ ks, ∀ w w', k.2 w → E w w' → k.2 w') → wpAnyF P md ops E W Fs Q fuel listed ks a → wpAny P md ops Q' fuel listed a w
  | 0, _, ks, _, w, hw, ha, _, h => ⟨h.1, hQ _ _ (h.2 w hw ha)⟩
  | fuel + 1, listed, ks, a, w, hw, ha, hst, h => by
    refine ⟨fun h0 => hQ _ _ (h.1 h0 w hw ha), fun i hi => ?_⟩
    have h1 := h.2 i hi
    unfold fOp at h1
    unfold wpOp
    split
    · rename_i ho; simp only [ho] at h1; exact wpAny_of_facts ht hQ fuel _ ks a w hw ha hst h1
    · rename_i o ho
      simp only [ho] at h1
      unfold fStep at h1
      split
      · rename_i hwd
        simp only [hwd, if_true] at h1
        obtain ⟨hg, hK⟩ := h1
        have hg' := hg w hw (Known.all_for ha)
        have go : ∀ x w', E w w' → (Fs i).R x w' → wpAny P md ops Q' fuel (listed.setIfInBounds i true) (a.put o.dst ((Fs i).val x)) w' := fun x w' he hR =>
          wpAny_of_facts ht hQ fuel _ _ _ w' (ht _ _ _ hw he) (fun k hk => by
            rcases List.mem_cons.1 hk with rfl | hk
            · exact hR
            · exact hst k hk _ _ (ha k hk) he) (fun k hk => by
            rcases List.mem_cons.1 hk with rfl | hk
            · exact (Fs i).stays x
            · exact hst k hk) (hK x)
        left
        unfold gives at hg'
        unfold Oper.wp
        generalize (execOp a.eval o).run P w = r at *
        cases r with
        | ok n w' =>
          cases n <;> simp only [givesUpon] at hg' <;> simp only [Oper.upon]
          case value u => obtain ⟨he, x, rfl, hR⟩ := hg'; exact go x w' he hR
          case skip => obtain ⟨he, x, hx, hR⟩ := hg'; rw [hx]; exact go x w' he hR
          case enter f args => exact hg'.mono fun e w'' ⟨he, x, hx, hR⟩ => by subst hx; exact go x w'' he hR
        | halt x w' => simp only [givesUpon] at hg'
      · rename_i hwd
        simp only [hwd] at h1
        exact wpAny_of_facts ht hQ fuel _ ks _ w hw ha hst h1

/-- One walk in the text's order serves every order. -/
theorem wp_region_facts {id : Nat} {Q : Exit → Act → World → Prop} {a : Act} {w : World} {l : List Oper} (fs : List (Fact E)) (hm : P.follows .mixedOrders = true) (hB : Region.lexB .any l.toArray = true)
    (ht : ∀ a b c, E a b → E b c → E a c) (hd : E w { w with drawn := w.drawn + 1 }) (h : wpF P l.toArray E w (fun a' w' => Q .normal a' w') l fs [] a) : (Code.region id l.toArray true).wp P Q a w := by
  simp only [Region.lexB, Bool.and_eq_true] at hB
  refine wp_region_any hm ?_
  have hlex := wpAnyF_lex (P := P) (md := .any) (ops := l.toArray) (E := E) (W := w) (Fs := fun i => (fs[i]?).getD ⟨Unit, (), fun _ => undef, fun _ _ => True, fun _ _ _ _ _ => trivial⟩) (Q := fun a' w' => Q .normal a' w') hB.1 l 0 fs (Array.replicate l.toArray.size false) [] a
    (by simp) (fun j F hj => by simp only [Nat.zero_add, hj, Option.getD_some]) (by simpa using hB.2) h
  have := wpAny_of_facts (ks := []) (Q := fun a' w' => Q .normal a' w') (Q' := Q) ht (fun _ _ h => h) _ _ _ { w with drawn := w.drawn + 1 } hd (fun k hk => by cases hk) (fun k hk => by cases hk) hlex
  simpa using this
end
end Go.Proofs.Ytnnkioekjobbmaa
