/-
  A region that draws its order, whose first n operations are each told either by a fact that stays true as memory turns (E), or by a job that reads or writes what only such jobs turn: it wants a class of worlds (that new memory leaves); one that writes leaves another class. One walk in the text's order serves every order; the last operations come in one forced order behind all of these, and are walked as a list. At no fence, and at the fence that lets all in.
-/
import Derived.Test.YtnnkioekjobbmaaFactsTailIn
import Derived.Test.YtnnkioekjobbmaaWalkBits
namespace Go.Proofs.Ytnnkioekjobbmaa
open Go.RowKit
set_option linter.unusedVariables false

structure Job (G E : World → World → Prop) where
  α : Type
  x0 : α
  val : α → Value
  R : α → World → Prop
  stays : ∀ x w w', R x w → E w w' → R x w'
  rd : Bool
  wr : Bool
  C : α → World → Prop
  closed : ∀ x w w', C x w → G w w' → C x w'

section
variable {P : Program} {ops : Array Oper} {md : Region.Mode} {G E : World → World → Prop} {W : World} {m : Nat}

/-- The class behind a job. -/
def Job.cls (J : Job G E) (C : World → Prop) (x : J.α) : World → Prop := if J.wr then J.C x else C
theorem Job.cls_on {J : Job G E} (h : J.wr = true) (C : World → Prop) (x : J.α) : J.cls C x = J.C x := by unfold Job.cls; rw [if_pos h]
theorem Job.cls_off {J : Job G E} (h : J.wr = false) (C : World → Prop) (x : J.α) : J.cls C x = C := by unfold Job.cls; rw [if_neg (by simp [h])]
/-- Two jobs that may not change places. -/
def clash (r1 w1 r2 w2 : Bool) : Bool := (w1 && (r2 || w2)) || (w2 && r1)
theorem clash_left {r1 w1 r2 w2 : Bool} (h : clash r1 w1 r2 w2 = false) (hu : (r2 || w2) = true) : w1 = false := by
  cases r1 <;> cases w1 <;> cases r2 <;> cases w2 <;> simp_all [clash]
theorem clash_right {r1 w1 r2 w2 : Bool} (h : clash r1 w1 r2 w2 = false) (hu : (r1 || w1) = true) : w2 = false := by
  cases r1 <;> cases w1 <;> cases r2 <;> cases w2 <;> simp_all [clash]
theorem Job.cls_comm {J K : Job G E} (h : clash J.rd J.wr K.rd K.wr = false) (C : World → Prop) (x : J.α) (y : K.α) : K.cls (J.cls C x) y = J.cls (K.cls C y) x := by
  cases hj : J.wr
  · rw [Job.cls_off hj, Job.cls_off hj]
  · have hk : K.wr = false := clash_right h (by simp [hj])
    rw [Job.cls_off hk, Job.cls_off hk]

def Job.left (J : Job G E) (x : J.α) (w w' : World) : Prop := J.R x w' ∧ (J.wr = true → E w w' ∧ J.C x w') ∧ (J.wr = false → G w w')
def givesJ (P : Program) (J : Job G E) (w : World) : Result Next → Prop
  | .ok (.value u) w' => ∃ x, u = J.val x ∧ J.left x w w'
  | .ok .skip w' => ∃ x, undef = J.val x ∧ J.left x w w'
  | .ok (.enter f args) w' => Calls P f args w' fun e w'' => ∃ x, e = .returned (J.val x) ∧ J.left x w w''
  | _ => False

def jStep (P : Program) (ops : Array Oper) (W : World) (J : Job G E) (o : Oper) (K : Known → (World → Prop) → Act → Prop) (ks : Known) (C : World → Prop) (a : Act) : Prop :=
  if Region.wanted o (yielded ops a.tmps) then (∀ w, E W w → ks.for (o.looksAt ops) w → ((J.rd || J.wr) = true → C w) → givesJ P J w ((execOp a.eval o).run P w)) ∧ ∀ x, K ((o.dst, J.R x) :: ks) (J.cls C x) (a.put o.dst (J.val x)) else K ks C (a.put o.dst undef)
def jOp (P : Program) (ops : Array Oper) (W : World) (Js : Nat → Job G E) (i : Nat) (K : Known → (World → Prop) → Act → Prop) (ks : Known) (C : World → Prop) (a : Act) : Prop :=
  match ops[i]? with
  | none => K ks C a
  | some o => jStep P ops W (Js i) o K ks C a

theorem jStep_mono {J : Job G E} {o : Oper} {K K' : Known → (World → Prop) → Act → Prop} {ks : Known} {C : World → Prop} {a : Act} (h : ∀ ks C a, K ks C a → K' ks C a) (hh : jStep P ops W J o K ks C a) : jStep P ops W J o K' ks C a := by
  unfold jStep at *
  split
  · rename_i hw; simp only [hw, if_true] at hh; exact ⟨hh.1, fun x => h _ _ _ (hh.2 x)⟩
  · rename_i hw; simp only [hw] at hh; exact h _ _ _ hh

/-- The walk in the text's order. -/
def wpJ (P : Program) (ops : Array Oper) (W : World) (Q : Act → World → Prop) : List Oper → List (Job G E) → Known → (World → Prop) → Act → Prop
  | [], _, ks, C, a => ∀ w, E W w → ks.all w → C w → Q a w
  | _ :: _, [], _, _, _ => False
  | o :: rest, J :: Js, ks, C, a => jStep P ops W J o (wpJ P ops W Q rest Js) ks C a

def wpAnyJT (P : Program) (md : Region.Mode) (ops : Array Oper) (W : World) (n g : Nat) (Js : Nat → Job G E) (Z : Act → World → Prop) : Nat → Array Bool → Known → (World → Prop) → Act → Prop
  | 0, listed, ks, C, a => Region.seqB md ops g n listed = true ∧ ∀ w, E W w → ks.all w → C w → Z a w
  | f + 1, listed, ks, C, a => Region.ready md ops listed ≠ [] ∧ ∀ i ∈ Region.ready md ops listed, i < n ∧ jOp P ops W Js i (wpAnyJT P md ops W n g Js Z f (listed.setIfInBounds i true)) ks C a

theorem wpAnyJT_more {n g : Nat} {Js : Nat → Job G E} {Z : Act → World → Prop} : ∀ (f : Nat) (listed : Array Bool) (ks ks' : Known) (C : World → Prop) (a : Act), (∀ k ∈ ks, k ∈ ks') → wpAnyJT P md ops W n g Js Z f listed ks C a → wpAnyJT P md ops W n g Js Z f listed ks' C a
  | 0, listed, ks, ks', C, a, hk, h => ⟨h.1, fun w hw ha => h.2 w hw fun k hk' => ha k (hk k hk')⟩
  | f + 1, listed, ks, ks', C, a, hk, h => by
    refine ⟨h.1, fun i hi => ⟨(h.2 i hi).1, ?_⟩⟩
    have h1 := (h.2 i hi).2
    unfold jOp at *
    split
    · rename_i ho; simp only [ho] at h1; exact wpAnyJT_more f _ ks ks' C a hk h1
    · rename_i o ho
      simp only [ho] at h1
      unfold jStep at *
      split
      · rename_i hw
        simp only [hw, if_true] at h1
        refine ⟨fun w hw' hf => h1.1 w hw' fun k hk' => hf k (hk k hk'), fun x => wpAnyJT_more f _ _ _ _ _ (fun k hk' => ?_) (h1.2 x)⟩
        rcases List.mem_cons.1 hk' with rfl | hk'
        · exact List.mem_cons_self
        · exact List.mem_cons_of_mem _ (hk k hk')
      · rename_i hw
        simp only [hw] at h1
        exact wpAnyJT_more f _ ks ks' C _ hk h1

/-- Operation i comes ahead of operation j in every order (by so many steps at most). -/
def aheadF (md : Region.Mode) (ops : Array Oper) : Nat → Nat → Nat → Bool
  | 0, _, _ => false
  | f + 1, j, i => Region.waitsFor md ops j i || (List.range j).any fun k => Region.waitsFor md ops j k && aheadF md ops f k i
def aheadB (md : Region.Mode) (ops : Array Oper) (j i : Nat) : Bool := aheadF md ops j j i
theorem ahead_listed {n : Nat} {listed : Array Bool} (inv : HeadInv md ops n listed) : ∀ (j i : Nat), aheadB md ops j i = true → j ∈ Region.ready md ops listed → listed.getD i false = true := by
  have hl : ∀ (f j i : Nat), aheadF md ops f j i = true → listed.getD j false = true → listed.getD i false = true := by
    intro f
    induction f with
    | zero => intro j i h; simp [aheadF] at h
    | succ f ih =>
      intro j i h hj
      rw [aheadF, Bool.or_eq_true] at h
      rcases h with h | h
      · obtain ⟨oj, hoj, e, he, hb, hon⟩ := Region.waitsFor_spec h
        have := inv.closed _ oj hoj hj e he hb
        rwa [hon] at this
      · obtain ⟨k, _, hk⟩ := List.any_eq_true.1 h
        rw [Bool.and_eq_true] at hk
        obtain ⟨oj, hoj, e, he, hb, hon⟩ := Region.waitsFor_spec hk.1
        have := inv.closed _ oj hoj hj e he hb
        rw [hon] at this
        exact ih k i hk.2 this
  intro j i h hj
  obtain ⟨_, oj, hoj, hall⟩ := mem_ready.1 hj
  unfold aheadB at h
  cases j with
  | zero => simp [aheadF] at h
  | succ j =>
    rw [aheadF, Bool.or_eq_true] at h
    rcases h with h | h
    · obtain ⟨oj', hoj', e, he, hb, hon⟩ := Region.waitsFor_spec h
      rw [hoj] at hoj'
      injection hoj' with e'
      subst e'
      have := hall e he hb
      rwa [hon] at this
    · obtain ⟨k, _, hk⟩ := List.any_eq_true.1 h
      rw [Bool.and_eq_true] at hk
      obtain ⟨oj', hoj', e, he, hb, hon⟩ := Region.waitsFor_spec hk.1
      rw [hoj] at hoj'
      injection hoj' with e'
      subst e'
      have := hall e he hb
      rw [hon] at this
      exact hl _ _ _ hk.2 this

theorem wpAnyJT_first {n g : Nat} {Js : Nat → Job G E} {Z : Act → World → Prop} {i : Nat} {oi : Oper} (hi : ops[i]? = some oi) (hsel : ∀ (j : Nat) (o : Oper) cs b, ops[j]? = some o → o.op ≠ .select cs b)
    (hs : Region.sinkB md ops n = true) (hc : Region.chainB md ops n = true) (hn : n < ops.size) (hin : i < n) :
    ∀ (fuel : Nat) (listed : Array Bool) (ks : Known) (C : World → Prop) (a : Act), HeadInv md ops n listed →
      (∀ j oj, ops[j]? = some oj → j ≠ i → listed.getD j true = false → (∀ e ∈ oj.after, Region.binds md e = true → e.on ≠ i) → oi.apart ops oj = true) →
      (∀ j, j < n → j ≠ i → listed.getD j true = false → clash (Js i).rd (Js i).wr (Js j).rd (Js j).wr = true → aheadB md ops j i = true) →
      i ∈ Region.ready md ops listed → jStep P ops W (Js i) oi (wpAnyJT P md ops W n g Js Z fuel (listed.setIfInBounds i true)) ks C a → wpAnyJT P md ops W n g Js Z (fuel + 1) listed ks C a := by
  intro fuel
  induction fuel with
  | zero =>
    intro listed ks C a inv _ _ hr H
    have hun := (mem_ready.1 hr).1
    refine ⟨fun h => (by rw [h] at hr; cases hr), fun j hj => ?_⟩
    have hjn : j < n := by
      rcases Nat.lt_or_ge j n with h | h
      · exact h
      · exact absurd hj (tail_waits hs hc hn inv _ i rfl hin hun j h)
    refine ⟨hjn, ?_⟩
    by_cases hji : j = i
    · subst hji; unfold jOp; simp only [hi]; exact H
    · have hseq : Region.seqB md ops g n (listed.setIfInBounds i true) = true := by
        unfold jStep at H
        split at H
        · exact (H.2 (Js i).x0).1
        · exact H.1
      have := seqB_ready hseq j (ready_mono hj hji)
      omega
  | succ fuel ih =>
    intro listed ks C a inv hfree huse hr H
    have hun := (mem_ready.1 hr).1
    refine ⟨fun h => (by rw [h] at hr; cases hr), fun j hj => ?_⟩
    have hjn : j < n := by
      rcases Nat.lt_or_ge j n with h | h
      · exact h
      · exact absurd hj (tail_waits hs hc hn inv _ i rfl hin hun j h)
    refine ⟨hjn, ?_⟩
    by_cases hji : j = i
    · subst hji; unfold jOp; simp only [hi]; exact H
    · have hjr := ready_mono hj hji
      obtain ⟨hjun, oj, hoj, hall⟩ := mem_ready.1 hj
      have hnot : ∀ e ∈ oj.after, Region.binds md e = true → e.on ≠ i := fun e he hb heq => by
        have h1 := hall e he hb
        rw [heq, getD_both hun] at h1
        cases h1
      have hap := hfree j oj hoj hji hjun hnot
      have hus : clash (Js i).rd (Js i).wr (Js j).rd (Js j).wr = false := by
        cases hcl : clash (Js i).rd (Js i).wr (Js j).rd (Js j).wr
        · rfl
        · have := ahead_listed inv _ _ (huse j hjn hji hjun hcl) hj
          rw [getD_both hun] at this
          cases this
      obtain ⟨p1, p2, p3⟩ := Oper.apart_spec hap
      have hsi := fun cs b => hsel i oi cs b hi
      have hsj := fun cs b => hsel j oj cs b hoj
      have hback : ∀ k, k ≠ i → (listed.setIfInBounds j true).getD k true = false → listed.getD k true = false := fun k hki hun' => by
        by_cases hjk : j = k
        · subst hjk; exact hjun
        · rw [getD_set_ne true hjk] at hun'; exact hun'
      have hfree' : ∀ k ok, ops[k]? = some ok → k ≠ i → (listed.setIfInBounds j true).getD k true = false →
          (∀ e ∈ ok.after, Region.binds md e = true → e.on ≠ i) → oi.apart ops ok = true := fun k ok hk hki hun' hno => hfree k ok hk hki (hback k hki hun') hno
      have huse' : ∀ k, k < n → k ≠ i → (listed.setIfInBounds j true).getD k true = false → clash (Js i).rd (Js i).wr (Js k).rd (Js k).wr = true → aheadB md ops k i = true := fun k hkn hki hun' => huse k hkn hki (hback k hki hun')
      have hri := ready_mono hr (Ne.symm hji)
      have inv' := inv.set hj hjn
      unfold jOp
      simp only [hoj]
      by_cases hwi : Region.wanted oi (yielded ops a.tmps) = true
      · unfold jStep at H
        simp only [hwi, if_true] at H
        obtain ⟨hgi, hK⟩ := H
        have hJ : ∀ x, jStep P ops W (Js j) oj (wpAnyJT P md ops W n g Js Z fuel ((listed.setIfInBounds i true).setIfInBounds j true)) ((oi.dst, (Js i).R x) :: ks) ((Js i).cls C x) (a.put oi.dst ((Js i).val x)) := fun x => by
          have := ((hK x).2 j hjr).2
          unfold jOp at this
          simp only [hoj] at this
          exact this
        unfold jStep
        by_cases hwj : Region.wanted oj (yielded ops a.tmps) = true
        · simp only [hwj, if_true]
          have hJ' : ∀ x, (∀ w, E W w → Known.for ((oi.dst, (Js i).R x) :: ks) (oj.looksAt ops) w → (((Js j).rd || (Js j).wr) = true → (Js i).cls C x w) → givesJ P (Js j) w ((execOp (a.put oi.dst ((Js i).val x)).eval oj).run P w)) ∧
              ∀ y, wpAnyJT P md ops W n g Js Z fuel ((listed.setIfInBounds i true).setIfInBounds j true) ((oj.dst, (Js j).R y) :: (oi.dst, (Js i).R x) :: ks) ((Js j).cls ((Js i).cls C x) y) ((a.put oi.dst ((Js i).val x)).put oj.dst ((Js j).val y)) := fun x => by
            have := hJ x
            unfold jStep at this
            rw [wanted_put oj a oi.dst _ p1] at this
            simp only [hwj, if_true] at this
            exact this
          refine ⟨fun w hw hf hC => ?_, fun y => ih _ _ _ _ inv' hfree' huse' hri ?_⟩
          · have := (hJ' (Js i).x0).1 w hw (known_other p1 hf) (fun hu => by
              have : (Js i).wr = false := clash_left hus hu
              rw [Job.cls_off this]
              exact hC hu)
            rwa [execOp_put oj hsj a oi.dst _ p1] at this
          · unfold jStep
            rw [wanted_put oi a oj.dst _ p3]
            simp only [hwi, if_true]
            refine ⟨fun w hw hf hC => ?_, fun x => ?_⟩
            · have := hgi w hw (known_less hf) (fun hu => by
                have h0 : (Js j).wr = false := clash_right hus hu
                have := hC hu
                rwa [Job.cls_off h0] at this)
              rwa [execOp_put oi hsi a oj.dst _ p3]
            · have := (hJ' x).2 y
              rw [Array.setIfInBounds_comm _ _ hji, ← Act.put_comm a _ _ p2, ← Job.cls_comm hus]
              exact wpAnyJT_more _ _ _ _ _ _ (known_swap _ _ _) this
        · simp only [hwj]
          have hJ' : ∀ x, wpAnyJT P md ops W n g Js Z fuel ((listed.setIfInBounds i true).setIfInBounds j true) ((oi.dst, (Js i).R x) :: ks) ((Js i).cls C x) ((a.put oi.dst ((Js i).val x)).put oj.dst undef) := fun x => by
            have := hJ x
            unfold jStep at this
            rw [wanted_put oj a oi.dst _ p1] at this
            simp only [hwj] at this
            exact this
          refine ih _ _ _ _ inv' hfree' huse' hri ?_
          unfold jStep
          rw [wanted_put oi a oj.dst _ p3]
          simp only [hwi, if_true]
          refine ⟨fun w hw hf hC => ?_, fun x => ?_⟩
          · have := hgi w hw hf hC
            rwa [execOp_put oi hsi a oj.dst _ p3]
          · rw [Array.setIfInBounds_comm _ _ hji, ← Act.put_comm a _ _ p2]
            exact hJ' x
      · unfold jStep at H
        simp only [hwi] at H
        have hJ : jStep P ops W (Js j) oj (wpAnyJT P md ops W n g Js Z fuel ((listed.setIfInBounds i true).setIfInBounds j true)) ks C (a.put oi.dst undef) := by
          have := (H.2 j hjr).2
          unfold jOp at this
          simp only [hoj] at this
          exact this
        unfold jStep at *
        rw [wanted_put oj a oi.dst _ p1] at hJ
        by_cases hwj : Region.wanted oj (yielded ops a.tmps) = true
        · simp only [hwj, if_true] at *
          refine ⟨fun w hw hf hC => ?_, fun y => ih _ _ _ _ inv' hfree' huse' hri ?_⟩
          · have := hJ.1 w hw hf hC
            rwa [execOp_put oj hsj a oi.dst _ p1] at this
          · rw [wanted_put oi a oj.dst _ p3]
            simp only [hwi]
            have := hJ.2 y
            rw [Array.setIfInBounds_comm _ _ hji, ← Act.put_comm a _ _ p2]
            exact this
        · simp only [hwj] at *
          refine ih _ _ _ _ inv' hfree' huse' hri ?_
          rw [wanted_put oi a oj.dst _ p3]
          simp only [hwi]
          rw [Array.setIfInBounds_comm _ _ hji, ← Act.put_comm a _ _ p2]
          exact hJ

/-- Jobs that may not change places cannot. us: which jobs read, which write. -/
def usesB (md : Region.Mode) (ops : Array Oper) (us : List (Bool × Bool)) : Bool :=
  (List.range us.length).all fun j => (List.range j).all fun i => !(clash (us.getD i (false, false)).1 (us.getD i (false, false)).2 (us.getD j (false, false)).1 (us.getD j (false, false)).2) || aheadB md ops j i
theorem usesB_spec {us : List (Bool × Bool)} (h : usesB md ops us = true) {i j : Nat} (hij : i < j) (hc : clash (us.getD i (false, false)).1 (us.getD i (false, false)).2 (us.getD j (false, false)).1 (us.getD j (false, false)).2 = true) : aheadB md ops j i = true := by
  have jl : j < us.length := by
    rcases Nat.lt_or_ge j us.length with h | h
    · exact h
    · have : us.getD j (false, false) = (false, false) := by rw [List.getD_eq_getElem?_getD, List.getElem?_eq_none h]; rfl
      rw [this] at hc
      simp [clash] at hc
  have h1 := List.all_eq_true.1 h j (List.mem_range.2 jl)
  have h2 := List.all_eq_true.1 h1 i (List.mem_range.2 hij)
  rw [hc] at h2
  simpa using h2

theorem wpAnyJT_lex {n g : Nat} {Js : Nat → Job G E} {Z : Act → World → Prop} (hsel : Region.noSelect ops = true) (hs : Region.sinkB md ops n = true) (hc : Region.chainB md ops n = true) (hn : n < ops.size)
    (hu : ∀ i j, i < j → clash (Js i).rd (Js i).wr (Js j).rd (Js j).wr = true → aheadB md ops j i = true) :
    ∀ (l : List Oper) (k : Nat) (js : List (Job G E)) (listed : Array Bool) (ks : Known) (C : World → Prop) (a : Act), (∀ j, j < l.length → l[j]? = ops[k + j]?) → (∀ j J, js[j]? = some J → Js (k + j) = J) → k + l.length = n → HeadInv md ops n listed →
      (∀ j, j < k → listed.getD j true = true) → Region.lexHead md ops g l.length k listed = true → wpJ P ops W Z l js ks C a → wpAnyJT P md ops W n g Js Z l.length listed ks C a
  | [], k, js, listed, ks, C, a, _, _, hk, _, _, hB, h => by
    have : k = n := by simpa using hk
    subst this
    refine ⟨by simpa [Region.lexHead] using hB, ?_⟩
    unfold wpJ at h
    exact h
  | o :: l, k, [], listed, ks, C, a, hl, hF, hk, inv, hlo, hB, h => h.elim
  | o :: l, k, J :: js, listed, ks, C, a, hl, hF, hk, inv, hlo, hB, h => by
    have h0 : ops[k]? = some o := by simpa using (hl 0 (by simp)).symm
    have hF0 : Js k = J := by simpa using hF 0 J rfl
    simp only [List.length_cons, Region.lexHead, Bool.and_eq_true] at hB
    obtain ⟨⟨hr, hf⟩, hB'⟩ := hB
    have hkn : k < n := by simp only [List.length_cons] at hk; omega
    have hr' : k ∈ Region.ready md ops listed := by simpa using hr
    refine wpAnyJT_first h0 (Region.noSelect_spec hsel) hs hc hn hkn l.length listed ks C a inv (Region.free_spec h0 hf) (fun j hjn hjk hunl hcl => ?_) hr' ?_
    · have hkj : k < j := by
        rcases Nat.lt_or_ge j k with h | h
        · rw [hlo j h] at hunl; cases hunl
        · omega
      exact hu k j hkj hcl
    rw [hF0]
    refine jStep_mono (fun ks C a h => wpAnyJT_lex hsel hs hc hn hu l (k + 1) js _ ks C a (fun j hj => by have := hl (j + 1) (by simp; omega); simpa [Nat.add_assoc, Nat.add_comm 1 j] using this)
      (fun j F' hj => by have := hF (j + 1) F' (by simpa using hj); simpa [Nat.add_assoc, Nat.add_comm 1 j] using this) (by simp only [List.length_cons] at hk; omega) (inv.set hr' hkn) (fun j hj => ?_) hB' h) h
    by_cases hjk : k = j
    · subst hjk
      have hks : k < listed.size := by rw [inv.size]; omega
      simp [hks]
    · rw [getD_set_ne true hjk]
      exact hlo j (by omega)

theorem wpAny_of_jobsT {n g : Nat} {Js : Nat → Job G E} {Z : Act → World → Prop} {Q' : Exit → Act → World → Prop} (hGE : ∀ a b, G a b → E a b) (ht : ∀ a b c, E a b → E b c → E a c) (hZ : ∀ listed a w, Region.seqB md ops g n listed = true → Z a w → wpAny P md ops Q' g listed a w) :
    ∀ (f : Nat) (listed : Array Bool) (ks : Known) (C : World → Prop) (a : Act) (w : World), E W w → ks.all w → C w → (∀ k ∈ ks, ∀ w w', k.2 w → E w w' → k.2 w') → (∀ w w', C w → G w w' → C w') → wpAnyJT P md ops W n g Js Z f listed ks C a → wpAny P md ops Q' (f + g) listed a w
  | 0, listed, ks, C, a, w, hw, ha, hCw, _, _, h => by rw [Nat.zero_add]; exact hZ _ _ _ h.1 (h.2 w hw ha hCw)
  | f + 1, listed, ks, C, a, w, hw, ha, hCw, hst, hcl, h => by
    rw [show f + 1 + g = (f + g) + 1 by omega]
    refine ⟨fun h0 => absurd h0 h.1, fun i hi => ?_⟩
    have h1 := (h.2 i hi).2
    unfold jOp at h1
    unfold wpOp
    split
    · rename_i ho; simp only [ho] at h1; exact wpAny_of_jobsT hGE ht hZ f _ ks C a w hw ha hCw hst hcl h1
    · rename_i o ho
      simp only [ho] at h1
      unfold jStep at h1
      split
      · rename_i hwd
        simp only [hwd, if_true] at h1
        obtain ⟨hg, hK⟩ := h1
        have hg' := hg w hw (Known.all_for ha) (fun _ => hCw)
        have go : ∀ x w', (Js i).left x w w' → wpAny P md ops Q' (f + g) (listed.setIfInBounds i true) (a.put o.dst ((Js i).val x)) w' := fun x w' hlf => by
          obtain ⟨hR, h1, h2⟩ := hlf
          have he : E w w' := by
            cases hu : (Js i).wr
            · exact hGE _ _ (h2 hu)
            · exact (h1 hu).1
          refine wpAny_of_jobsT hGE ht hZ f _ _ _ _ w' (ht _ _ _ hw he) (fun k hk => by
            rcases List.mem_cons.1 hk with rfl | hk
            · exact hR
            · exact hst k hk _ _ (ha k hk) he) ?_ (fun k hk => by
            rcases List.mem_cons.1 hk with rfl | hk
            · exact (Js i).stays x
            · exact hst k hk) ?_ (hK x)
          · cases hu : (Js i).wr
            · rw [Job.cls_off hu]; exact hcl _ _ hCw (h2 hu)
            · rw [Job.cls_on hu]; exact (h1 hu).2
          · cases hu : (Js i).wr
            · rw [Job.cls_off hu]; exact hcl
            · rw [Job.cls_on hu]; exact (Js i).closed x
        left
        unfold Oper.wp
        generalize (execOp a.eval o).run P w = r at *
        cases r with
        | ok n w' =>
          cases n <;> simp only [givesJ] at hg' <;> simp only [Oper.upon]
          case value u => obtain ⟨x, rfl, hR⟩ := hg'; exact go x w' hR
          case skip => obtain ⟨x, hx, hR⟩ := hg'; rw [hx]; exact go x w' hR
          case enter f args => exact hg'.mono fun e w'' ⟨x, hx, hR⟩ => by subst hx; exact go x w'' hR
        | halt x w' => simp only [givesJ] at hg'
      · rename_i hwd
        simp only [hwd] at h1
        exact wpAny_of_jobsT hGE ht hZ f _ ks C _ w hw ha hCw hst hcl h1

theorem wpAnyIn_of_jobsT {n g : Nat} {Js : Nat → Job G E} {Z : Act → World → Prop} {Q' : Exit → Act → World → Prop} (hGE : ∀ a b, G a b → E a b) (ht : ∀ a b c, E a b → E b c → E a c) (hZ : ∀ listed a w, Region.seqB md ops g n listed = true → Z a w → wpAnyIn Fence.wide m P md ops Q' g listed a w) :
    ∀ (f : Nat) (listed : Array Bool) (ks : Known) (C : World → Prop) (a : Act) (w : World), E W w → ks.all w → C w → (∀ k ∈ ks, ∀ w w', k.2 w → E w w' → k.2 w') → (∀ w w', C w → G w w' → C w') → wpAnyJT P md ops W n g Js Z f listed ks C a → wpAnyIn Fence.wide m P md ops Q' (f + g) listed a w
  | 0, listed, ks, C, a, w, hw, ha, hCw, _, _, h => by rw [Nat.zero_add]; exact hZ _ _ _ h.1 (h.2 w hw ha hCw)
  | f + 1, listed, ks, C, a, w, hw, ha, hCw, hst, hcl, h => by
    rw [show f + 1 + g = (f + g) + 1 by omega]
    refine ⟨fun h0 => absurd h0 h.1, fun i hi => ?_⟩
    have h1 := (h.2 i hi).2
    unfold jOp at h1
    unfold wpOpIn
    split
    · rename_i ho; simp only [ho] at h1; exact wpAnyIn_of_jobsT hGE ht hZ f _ ks C a w hw ha hCw hst hcl h1
    · rename_i o ho
      simp only [ho] at h1
      unfold jStep at h1
      split
      · rename_i hwd
        simp only [hwd, if_true] at h1
        obtain ⟨hg, hK⟩ := h1
        have hg' := hg w hw (Known.all_for ha) (fun _ => hCw)
        have go : ∀ x w', (Js i).left x w w' → wpAnyIn Fence.wide m P md ops Q' (f + g) (listed.setIfInBounds i true) (a.put o.dst ((Js i).val x)) w' := fun x w' hlf => by
          obtain ⟨hR, h1, h2⟩ := hlf
          have he : E w w' := by
            cases hu : (Js i).wr
            · exact hGE _ _ (h2 hu)
            · exact (h1 hu).1
          refine wpAnyIn_of_jobsT hGE ht hZ f _ _ _ _ w' (ht _ _ _ hw he) (fun k hk => by
            rcases List.mem_cons.1 hk with rfl | hk
            · exact hR
            · exact hst k hk _ _ (ha k hk) he) ?_ (fun k hk => by
            rcases List.mem_cons.1 hk with rfl | hk
            · exact (Js i).stays x
            · exact hst k hk) ?_ (hK x)
          · cases hu : (Js i).wr
            · rw [Job.cls_off hu]; exact hcl _ _ hCw (h2 hu)
            · rw [Job.cls_on hu]; exact (h1 hu).2
          · cases hu : (Js i).wr
            · rw [Job.cls_off hu]; exact hcl
            · rw [Job.cls_on hu]; exact (Js i).closed x
        refine ⟨fun _ _ => trivial, ?_⟩
        rw [show Fence.wide.round = none from rfl, Oper.semAt_none]
        generalize (execOp a.eval o).run P w = r at *
        cases r with
        | ok n w' =>
          cases n <;> simp only [givesJ] at hg' <;> simp only [Oper.uponIn]
          case value u => obtain ⟨x, rfl, hR⟩ := hg'; exact go x w' hR
          case skip => obtain ⟨x, hx, hR⟩ := hg'; rw [hx]; exact go x w' hR
          case enter f args => exact ⟨(fun h => by cases h), (callsIn_wide.2 hg').mono fun e w'' ⟨x, hx, hR⟩ => by subst hx; exact go x w'' hR⟩
        | halt x w' => simp only [givesJ] at hg'
      · rename_i hwd
        simp only [hwd] at h1
        exact ⟨fun _ _ => trivial, wpAnyIn_of_jobsT hGE ht hZ f _ ks C _ w hw ha hCw hst hcl h1⟩

/-- A job that is none. -/
def Job.none : Job G E := ⟨Unit, (), fun _ => undef, fun _ _ => True, fun _ _ _ _ _ => trivial, false, false, fun _ _ => True, fun _ _ _ _ _ => trivial⟩

/-- One walk in the text's order over the first n operations serves every order; the last ones are walked as a list. -/
theorem wp_region_jobs {id : Nat} {Q : Exit → Act → World → Prop} {a : Act} {w : World} {l : List Oper} (n : Nat) (js : List (Job G E)) (us : List (Bool × Bool)) (C : World → Prop) (hus : us = js.map fun J => (J.rd, J.wr)) (hm : P.follows .mixedOrders = true) (hB : (Region.lexTailB .any l.toArray n && usesB .any l.toArray us) = true)
    (hGE : ∀ a b, G a b → E a b) (ht : ∀ a b c, E a b → E b c → E a c) (hd : E w { w with drawn := w.drawn + 1 }) (hC : C { w with drawn := w.drawn + 1 }) (hcl : ∀ w w', C w → G w w' → C w')
    (h : wpJ (G := G) (E := E) P l.toArray w (fun a' w' => wpList P l.toArray Q (l.drop n) a' w') (l.take n) js [] C a) : (Code.region id l.toArray true).wp P Q a w := by
  simp only [Region.lexTailB, Bool.and_eq_true, decide_eq_true_eq] at hB
  obtain ⟨⟨⟨⟨⟨hsel, hn⟩, hs⟩, hc⟩, hlex⟩, huB⟩ := hB
  have hn' : n < l.length := by simpa using hn
  have htl : (l.take n).length = n := by simp; omega
  have hdl : (l.drop n).length = l.toArray.size - n := by simp
  have inv0 : HeadInv .any l.toArray n (Array.replicate l.toArray.size false) :=
    ⟨by simp, fun j oj _ hl => (by rw [getD_replicate_false] at hl; cases hl), fun t _ ht => getD_in (by simpa using ht) (getD_replicate_false _ _)⟩
  have hgd : ∀ i, (((js[i]?).getD Job.none).rd, ((js[i]?).getD Job.none).wr) = us.getD i (false, false) := fun i => by
    subst hus
    rw [List.getD_eq_getElem?_getD, List.getElem?_map]
    cases js[i]? <;> rfl
  have H := wpAnyJT_lex (P := P) (md := .any) (W := w) (g := l.toArray.size - n) (Js := fun i => (js[i]?).getD Job.none) (Z := fun a' w' => wpList P l.toArray Q (l.drop n) a' w') hsel hs hc hn
    (fun i j hij h1 => usesB_spec huB hij (by rw [← hgd, ← hgd]; exact h1)) (l.take n) 0 js _ [] C a (fun j hj => by
    have hj' : j < n := by rw [htl] at hj; exact hj
    simp [hj']) (fun j F hj => by simp only [Nat.zero_add, hj, Option.getD_some]) (by simpa using htl) inv0 (fun j hj => absurd hj (Nat.not_lt_zero j)) (by rw [htl]; exact hlex) h
  refine wp_region_any hm ?_
  have := wpAny_of_jobsT (Q' := Q) hGE ht (fun listed a' w' hseq hL => by
    have := wpAny_of_seq (md := .any) (Q' := Q) (l.drop n) n listed a' w' (fun j => by simp [List.getElem?_drop]) (by rw [hdl]; exact hseq) hL
    rwa [hdl] at this) _ _ _ _ _ { w with drawn := w.drawn + 1 } hd (fun k hk => by cases hk) hC (fun k hk => by cases hk) hcl H
  rw [htl, show n + (l.toArray.size - n) = l.toArray.size by omega] at this
  exact this

/-- The same, within the fence: one walk in the text's order over the first n operations serves every order; the last ones are walked as a list. -/
theorem wpIn_region_jobs {id : Nat} {Q : Exit → Act → World → Prop} {a : Act} {w : World} {l : List Oper} (n : Nat) (js : List (Job G E)) (us : List (Bool × Bool)) (C : World → Prop) (hus : us = js.map fun J => (J.rd, J.wr)) (hm : P.follows .mixedOrders = true) (hB : (Region.lexTailB .any l.toArray n && usesB .any l.toArray us) = true)
    (hGE : ∀ a b, G a b → E a b) (ht : ∀ a b c, E a b → E b c → E a c) (hd : E w { w with drawn := w.drawn + 1 }) (hC : C { w with drawn := w.drawn + 1 }) (hcl : ∀ w w', C w → G w w' → C w')
    (h : wpJ (G := G) (E := E) P l.toArray w (fun a' w' => wpListIn Fence.wide m P l.toArray Q (l.drop n) a' w') (l.take n) js [] C a) : (Code.region id l.toArray true).wpIn Fence.wide m P Q a w := by
  simp only [Region.lexTailB, Bool.and_eq_true, decide_eq_true_eq] at hB
  obtain ⟨⟨⟨⟨⟨hsel, hn⟩, hs⟩, hc⟩, hlex⟩, huB⟩ := hB
  have hn' : n < l.length := by simpa using hn
  have htl : (l.take n).length = n := by simp; omega
  have hdl : (l.drop n).length = l.toArray.size - n := by simp
  have inv0 : HeadInv .any l.toArray n (Array.replicate l.toArray.size false) :=
    ⟨by simp, fun j oj _ hl => (by rw [getD_replicate_false] at hl; cases hl), fun t _ ht => getD_in (by simpa using ht) (getD_replicate_false _ _)⟩
  have hgd : ∀ i, (((js[i]?).getD Job.none).rd, ((js[i]?).getD Job.none).wr) = us.getD i (false, false) := fun i => by
    subst hus
    rw [List.getD_eq_getElem?_getD, List.getElem?_map]
    cases js[i]? <;> rfl
  have H := wpAnyJT_lex (P := P) (md := .any) (W := w) (g := l.toArray.size - n) (Js := fun i => (js[i]?).getD Job.none) (Z := fun a' w' => wpListIn Fence.wide m P l.toArray Q (l.drop n) a' w') hsel hs hc hn
    (fun i j hij h1 => usesB_spec huB hij (by rw [← hgd, ← hgd]; exact h1)) (l.take n) 0 js _ [] C a (fun j hj => by
    have hj' : j < n := by rw [htl] at hj; exact hj
    simp [hj']) (fun j F hj => by simp only [Nat.zero_add, hj, Option.getD_some]) (by simpa using htl) inv0 (fun j hj => absurd hj (Nat.not_lt_zero j)) (by rw [htl]; exact hlex) h
  refine wpIn_region_any hm ?_
  have := wpAnyIn_of_jobsT (m := m) (Q' := Q) hGE ht (fun listed a' w' hseq hL => by
    have := wpAnyIn_of_seqW (m := m) (md := .any) (Q' := Q) (l.drop n) n listed a' w' (fun j => by simp [List.getElem?_drop]) (by rw [hdl]; exact hseq) hL
    rwa [hdl] at this) _ _ _ _ _ { w with drawn := w.drawn + 1 } hd (fun k hk => by cases hk) hC (fun k hk => by cases hk) hcl H
  rw [htl, show n + (l.toArray.size - n) = l.toArray.size by omega] at this
  exact this
end
end Go.Proofs.Ytnnkioekjobbmaa
