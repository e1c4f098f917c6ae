/-
  The heap's elements, plainly: lists of which something is left.
-/
import Derived.Test.YtnnkioekjobbmaaFdPlain
import Derived.Test.YtnnkioekjobbmaaHeapP
namespace Go.Proofs.Ytnnkioekjobbmaa
open Go.Sort
set_option linter.unusedVariables false
set_option linter.unusedSimpArgs false

/-- A list: as which one it was handed in, its own block, and where what is left of it stands. -/
structure El where
  no : Nat
  blk : Nat
  ad : Addr
  n : Nat
  c : Nat
  hs : List Ht
instance : Inhabited El := ⟨⟨0, 0, ⟨0, 0, none⟩, 0, 0, []⟩⟩
def keyE (x : El) : List UInt8 := match x.hs with | [] => [] | h :: _ => h.key
def ltE (x y : El) : Bool := bytesBefore (keyE x) (keyE y) || ((keyE x == keyE y) && decide (y.no < x.no))
theorem ltE_lt {x y : El} (h : bytesBefore (keyE x) (keyE y) = true) : ltE x y = true := by unfold ltE; rw [h]; rfl
theorem ltE_ne {x y : El} (h : bytesBefore (keyE x) (keyE y) = false) (he : (keyE x == keyE y) = false) : ltE x y = false := by unfold ltE; rw [h, he]; rfl
theorem ltE_eq {x y : El} (h : (keyE x == keyE y) = true) : ltE x y = decide (y.no < x.no) := by
  have e : keyE x = keyE y := by simpa using h
  unfold ltE; rw [h, e, fbef_irrefl]; rfl
theorem ltE_no {x y : El} : ltE x y = false ↔ bytesBefore (keyE x) (keyE y) = false ∧ (keyE x = keyE y → x.no ≤ y.no) := by
  unfold ltE
  rw [Bool.or_eq_false_iff, Bool.and_eq_false_iff]
  refine and_congr_right fun _ => ?_
  by_cases e : keyE x = keyE y
  · simp [e]
  · simp [e]
theorem swoE : SWO ltE where
  irrefl x := ltE_no.2 ⟨fbef_irrefl _, fun _ => Nat.le_refl _⟩
  trans x y z h1 h2 := by
    unfold ltE at h1 h2 ⊢
    simp only [Bool.or_eq_true, Bool.and_eq_true, beq_iff_eq, decide_eq_true_eq] at h1 h2 ⊢
    rcases h1 with h1 | ⟨e1, h1⟩
    · rcases h2 with h2 | ⟨e2, h2⟩
      · exact .inl (fbef_trans h1 h2)
      · exact .inl (e2 ▸ h1)
    · rcases h2 with h2 | ⟨e2, h2⟩
      · exact .inl (e1 ▸ h2)
      · exact .inr ⟨e1.trans e2, by omega⟩
  ntrans x y z h1 h2 := by
    obtain ⟨a1, a2⟩ := ltE_no.1 h1
    obtain ⟨b1, b2⟩ := ltE_no.1 h2
    refine ltE_no.2 ⟨?_, fun e => ?_⟩
    · rcases h : bytesBefore (keyE x) (keyE z) with _ | _
      · rfl
      · by_cases e : keyE x = keyE y
        · rw [e, b1] at h; cases h
        · have h3 := fbef_trans (fbef_total a1 e) h
          rw [b1] at h3; cases h3
    · by_cases e1 : keyE x = keyE y
      · have := a2 e1
        have := b2 (e1 ▸ e)
        omega
      · have h3 := fbef_total a1 e1
        rw [e, b1] at h3
        cases h3
def HasE (m : List El) (i : Nat) (h : Ht) : Prop := ∃ x ∈ m, x.no = i ∧ h ∈ x.hs
structure GoodE (m : List El) : Prop where
  each : ∀ x ∈ m, x.hs ≠ [] ∧ Rising x.hs
  apart : m.Pairwise fun x y => x.no ≠ y.no ∧ x.blk ≠ y.blk
theorem GoodE.nil : GoodE [] := ⟨fun x h => (by cases h), List.Pairwise.nil⟩
theorem GoodE.perm {a b : List El} (h : GoodE a) (p : a.Perm b) : GoodE b :=
  ⟨fun x hx => h.each x (p.mem_iff.2 hx), (p.pairwise_iff (fun h => ⟨fun e => h.1 e.symm, fun e => h.2 e.symm⟩)).1 h.apart⟩
theorem HasE.perm {a b : List El} (p : a.Perm b) (i : Nat) (h : Ht) : HasE a i h ↔ HasE b i h :=
  ⟨fun ⟨x, hx, q⟩ => ⟨x, p.mem_iff.1 hx, q⟩, fun ⟨x, hx, q⟩ => ⟨x, p.mem_iff.2 hx, q⟩⟩
theorem GoodE.tail {x : El} {m : List El} (h : GoodE (x :: m)) : GoodE m := ⟨fun y hy => h.each y (List.mem_cons_of_mem _ hy), (List.pairwise_cons.1 h.apart).2⟩
theorem GoodE.snoc {x : El} {m : List El} (h : GoodE m) (h1 : x.hs ≠ []) (h2 : Rising x.hs) (h3 : ∀ y ∈ m, y.no ≠ x.no ∧ y.blk ≠ x.blk) : GoodE (m ++ [x]) :=
  ⟨fun y hy => by
    rcases List.mem_append.1 hy with hy | hy
    · exact h.each y hy
    · rw [List.mem_singleton.1 hy]; exact ⟨h1, h2⟩,
   List.pairwise_append.2 ⟨h.apart, List.pairwise_singleton _ _, fun y hy z hz => by rw [List.mem_singleton.1 hz]; exact h3 y hy⟩⟩
def countE (m : List El) : Nat := (m.map fun x => x.hs.length).sum
theorem countE_cons (x : El) (m : List El) : countE (x :: m) = x.hs.length + countE m := by unfold countE; rw [List.map_cons, List.sum_cons]
theorem countE_snoc (x : El) (m : List El) : countE (m ++ [x]) = countE m + x.hs.length := by unfold countE; rw [List.map_append, List.sum_append]; simp
theorem countE_perm {a b : List El} (p : a.Perm b) : countE a = countE b := by
  induction p with
  | nil => rfl
  | cons x _ ih => rw [countE_cons, countE_cons, ih]
  | swap x y l => rw [countE_cons, countE_cons, countE_cons, countE_cons]; omega
  | trans _ _ h1 h2 => exact h1.trans h2
theorem pair_of {α : Type} {R : α → α → Prop} (hs : ∀ {x y}, R x y → R y x) : ∀ {l : List α}, l.Pairwise R → ∀ {x y}, x ∈ l → y ∈ l → x ≠ y → R x y
  | [], _, x, _, hx, _, _ => by cases hx
  | a :: r, h, x, y, hx, hy, hne => by
    obtain ⟨h1, h2⟩ := List.pairwise_cons.1 h
    rcases List.mem_cons.1 hx with ex | hxr
    · rcases List.mem_cons.1 hy with ey | hyr
      · exact absurd (ex.trans ey.symm) hne
      · rw [ex]; exact h1 y hyr
    · rcases List.mem_cons.1 hy with ey | hyr
      · rw [ey]; exact hs (h1 x hxr)
      · exact pair_of hs h2 hxr hyr hne
theorem head_le {x : El} (hr : Rising x.hs) {g : Ht} (hg : g ∈ x.hs) : keyE x = g.key ∨ bytesBefore (keyE x) g.key = true := by
  unfold keyE
  rcases hx : x.hs with _ | ⟨a, r⟩
  · rw [hx] at hg; cases hg
  · rw [hx] at hg hr
    rcases List.mem_cons.1 hg with e | hg2
    · exact .inl (by rw [e])
    · exact .inr ((List.pairwise_cons.1 hr).1 g hg2)
/-- One hint is taken of x. -/
structure Took (m m2 : List El) (x : El) (h : Ht) : Prop where
  has : ∀ i g, HasE m2 i g ↔ HasE m i g ∧ ¬ (i = x.no ∧ g = h)
  here : HasE m x.no h
  count : countE m2 + 1 = countE m
  good : GoodE m2
  key : keyE x = h.key
  mem : x ∈ m
theorem took {m m' m2 : List El} {x x' : El} {h : Ht} {t : List Ht} (hg : GoodE m) (hp : m.Perm (x :: m')) (hx : x.hs = h :: t) (hn : x'.no = x.no) (hb : x'.blk = x.blk) (ht : x'.hs = t) (h2 : (t = [] ∧ m2.Perm m') ∨ (t ≠ [] ∧ m2.Perm (m' ++ [x']))) : Took m m2 x h := by
  have hg1 := hg.perm hp
  have hap := (List.pairwise_cons.1 hg1.apart).1
  have hri := (hg1.each x List.mem_cons_self).2
  rw [hx] at hri
  have htr := List.pairwise_cons.1 hri
  have hnt : h ∉ t := fun q => fbef_ne (htr.1 h q) rfl
  have key : ∀ i g, HasE m2 i g ↔ (∃ y ∈ m', y.no = i ∧ g ∈ y.hs) ∨ (i = x.no ∧ g ∈ t) := by
    intro i g
    rcases h2 with ⟨rfl, p⟩ | ⟨_, p⟩
    · rw [HasE.perm p]
      exact ⟨.inl, fun q => q.elim id fun q => by cases q.2⟩
    · rw [HasE.perm p]
      constructor
      · rintro ⟨y, hy, q1, q2⟩
        rcases List.mem_append.1 hy with hy | hy
        · exact .inl ⟨y, hy, q1, q2⟩
        · rw [List.mem_singleton.1 hy] at q1 q2
          exact .inr ⟨by rw [← q1, hn], ht ▸ q2⟩
      · rintro (⟨y, hy, q⟩ | ⟨q1, q2⟩)
        · exact ⟨y, List.mem_append_left _ hy, q⟩
        · exact ⟨x', List.mem_append_right _ (List.mem_singleton.2 rfl), by rw [hn, q1], by rw [ht]; exact q2⟩
  refine ⟨fun i g => ?_, (HasE.perm hp _ _).2 ⟨x, List.mem_cons_self, rfl, by rw [hx]; exact List.mem_cons_self⟩, ?_, ?_, by unfold keyE; rw [hx], hp.mem_iff.2 List.mem_cons_self⟩
  · rw [key, HasE.perm hp]
    constructor
    · rintro (⟨y, hy, q1, q2⟩ | ⟨q1, q2⟩)
      · exact ⟨⟨y, List.mem_cons_of_mem _ hy, q1, q2⟩, fun q => (hap y hy).1 (by rw [q1, q.1])⟩
      · exact ⟨⟨x, List.mem_cons_self, q1.symm, by rw [hx]; exact List.mem_cons_of_mem _ q2⟩, fun q => hnt (q.2 ▸ q2)⟩
    · rintro ⟨⟨y, hy, q1, q2⟩, hne⟩
      rcases List.mem_cons.1 hy with rfl | hy
      · rw [hx] at q2
        rcases List.mem_cons.1 q2 with q2 | q2
        · exact absurd ⟨q1.symm, q2⟩ hne
        · exact .inr ⟨q1.symm, q2⟩
      · exact .inl ⟨y, hy, q1, q2⟩
  · rw [countE_perm hp, countE_cons, hx]
    rcases h2 with ⟨rfl, p⟩ | ⟨_, p⟩
    · rw [countE_perm p]
      simp
      omega
    · rw [countE_perm p, countE_snoc, ht]
      simp
      omega
  · rcases h2 with ⟨rfl, p⟩ | ⟨h0, p⟩
    · exact hg1.tail.perm p.symm
    · exact (hg1.tail.snoc (x := x') (by rw [ht]; exact h0) (by rw [ht]; exact htr.2) fun y hy => ⟨fun e => (hap y hy).1 (by rw [e, hn]), fun e => (hap y hy).2 (by rw [e, hb])⟩).perm p.symm
/-- Told so far is what is told of all, but for what is left. -/
def ToldM (M0 M : Nat → Ht → Prop) (L : List (Nat × Ht)) : Prop := ∀ R, Folds M R → Folds M0 (L ++ R)
theorem ToldM.start (M : Nat → Ht → Prop) : ToldM M M [] := fun R h => h
theorem ToldM.same {M0 M M' : Nat → Ht → Prop} {L : List (Nat × Ht)} (h : ToldM M0 M L) (e : ∀ i x, M' i x ↔ M i x) : ToldM M0 M' L := fun R hR => h R (hR.same e)
theorem ToldM.done {M0 M : Nat → Ht → Prop} {L : List (Nat × Ht)} (h : ToldM M0 M L) (e : ∀ i x, ¬ M i x) : Folds M0 L := by
  have := h [] (Folds.none e)
  rwa [List.append_nil] at this
theorem least {m : List El} (hg : GoodE m) {x : El} (hmin : ∀ y ∈ m, ltE y x = false) {j : Nat} {g : Ht} (hj : HasE m j g) : bytesBefore g.key (keyE x) = false ∧ (g.key = keyE x → j ≤ x.no) := by
  obtain ⟨y, hy, rfl, hgy⟩ := hj
  obtain ⟨h1, h2⟩ := ltE_no.1 (hmin y hy)
  have hl := head_le (hg.each y hy).2 hgy
  constructor
  · rcases h : bytesBefore g.key (keyE x) with _ | _
    · rfl
    · rcases hl with e | hl
      · rw [← e, h1] at h; cases h
      · have := fbef_trans hl h
        rw [h1] at this; cases this
  · intro e
    rcases hl with e2 | hl
    · exact h2 (e2.trans e)
    · rw [e, h1] at hl; cases hl
/-- Behind the first taking: what is told, with all of that key taken. -/
theorem ToldM.next {M0 : Nat → Ht → Prop} {m m2 : List El} {L : List (Nat × Ht)} (hT : ToldM M0 (HasE m) L) (hg : GoodE m) {x : El} {h : Ht} (hmin : ∀ y ∈ m, ltE y x = false) (ht : Took m m2 x h) :
    ToldM M0 (fun j g => HasE m j g ∧ g.key ≠ h.key) (L ++ [(x.no, h)]) := by
  intro R hR
  rw [List.append_assoc]
  refine hT _ ?_
  have hl := fun j g (hj : HasE m j g) => least hg hmin hj
  refine Folds.next ht.here (fun g hgx e => ?_) (fun j g hj => by rw [← ht.key]; exact (hl j g hj).1) (fun j g hj e => (hl j g hj).2 (by rw [ht.key]; exact e)) (fun j g => Iff.rfl) hR
  obtain ⟨y, hy, hyn, hgy⟩ := hgx
  obtain ⟨z, hz, hzn, hhz⟩ := ht.here
  have hyz : y = z := by
    refine Classical.byContradiction fun hne => ?_
    exact (pair_of (fun q => ⟨fun e => q.1 e.symm, fun e => q.2 e.symm⟩) hg.apart hy hz hne).1 (hyn.trans hzn.symm)
  subst hyz
  exact (hg.each y hy).2.key hgy hhz e
/-- All but some of a key are left. -/
def Near (M1 : Nat → Ht → Prop) (k : List UInt8) (m : List El) : Prop := (∀ j g, HasE m j g → M1 j g) ∧ ∀ j g, M1 j g → g.key ≠ k → HasE m j g
theorem Near.start {m m2 : List El} {x : El} {h : Ht} (ht : Took m m2 x h) : Near (HasE m) h.key m2 :=
  ⟨fun j g hj => ((ht.has j g).1 hj).1, fun j g hj hne => (ht.has j g).2 ⟨hj, fun q => hne (by rw [q.2])⟩⟩
theorem Near.take {M1 : Nat → Ht → Prop} {k : List UInt8} {m m2 : List El} {x : El} {h : Ht} (hn : Near M1 k m) (ht : Took m m2 x h) (e : h.key = k) : Near M1 k m2 :=
  ⟨fun j g hj => hn.1 j g ((ht.has j g).1 hj).1, fun j g hj hne => (ht.has j g).2 ⟨hn.2 j g hj hne, fun q => hne (by rw [q.2]; exact e)⟩⟩
theorem Near.done {M1 : Nat → Ht → Prop} {k : List UInt8} {m : List El} (hn : Near M1 k m) (hk : ∀ j g, HasE m j g → g.key ≠ k) (j : Nat) (g : Ht) : HasE m j g ↔ M1 j g ∧ g.key ≠ k :=
  ⟨fun q => ⟨hn.1 j g q, hk j g q⟩, fun q => hn.2 j g q.1 q.2⟩
theorem far_keys {M1 : Nat → Ht → Prop} {k : List UInt8} {m : List El} (hn : Near M1 k m) (hg : GoodE m) (hlow : ∀ j g, M1 j g → bytesBefore g.key k = false) {x : El} (hx : x ∈ m) (hmin : ∀ y ∈ m, ltE y x = false) (hne : keyE x ≠ k) : ∀ j g, HasE m j g → g.key ≠ k := by
  intro j g hj e
  obtain ⟨h1, h2⟩ := hg.each x hx
  have hl := (least hg hmin hj).1
  rw [e] at hl
  have hxk : bytesBefore (keyE x) k = true := fbef_total hl fun e => hne e.symm
  rcases hxs : x.hs with _ | ⟨a, r⟩
  · exact h1 hxs
  · have ha := hlow x.no a (hn.1 _ _ ⟨x, hx, rfl, by rw [hxs]; exact List.mem_cons_self⟩)
    unfold keyE at hxk
    rw [hxs] at hxk
    dsimp only at hxk
    rw [hxk] at ha
    cases ha
end Go.Proofs.Ytnnkioekjobbmaa
