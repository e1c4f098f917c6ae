/-
  How much segments have, plainly: a list of uses by their numbers, which rise. No program in sight.
-/
import Derived.Test.YtlldcogkcjnejaaHeapP
import Derived.Lib.SlKeysI
namespace Go.Proofs.Ytlldcogkcjnejaa
open Go.RowKit Go.Maps Go.Sort
set_option linter.unusedVariables false
set_option linter.unusedSimpArgs false

/-- How much a segment has. -/
structure Us where
  seg : Int
  all : Int
  live : Int
deriving DecidableEq
instance : Inhabited Us := ⟨⟨0, 0, 0⟩⟩
def RiseU (l : List Us) : Prop := l.Pairwise fun x y => x.seg < y.seg
def uins (x : Us) : List Us → List Us
  | [] => [x]
  | y :: r => if x.seg < y.seg then x :: y :: r else y :: uins x r
def udel (k : Int) (l : List Us) : List Us := l.filter fun p => !(p.seg == k)
def uput (x : Us) (l : List Us) : List Us := uins x (udel x.seg l)
def ufind (k : Int) (l : List Us) : Option Us := l.find? fun p => p.seg == k
theorem mem_uins {x y : Us} : ∀ {l : List Us}, y ∈ uins x l ↔ y = x ∨ y ∈ l
  | [] => by simp [uins]
  | z :: r => by
    unfold uins
    split
    · simp
    · rw [List.mem_cons, mem_uins, List.mem_cons]
      constructor
      · rintro (h | h | h)
        · exact .inr (.inl h)
        · exact .inl h
        · exact .inr (.inr h)
      · rintro (h | h | h)
        · exact .inr (.inl h)
        · exact .inl h
        · exact .inr (.inr h)
theorem mem_udel {k : Int} {y : Us} {l : List Us} : y ∈ udel k l ↔ y ∈ l ∧ y.seg ≠ k := by
  unfold udel
  rw [List.mem_filter]
  simp
theorem mem_uput {x y : Us} {l : List Us} : y ∈ uput x l ↔ y = x ∨ (y ∈ l ∧ y.seg ≠ x.seg) := by
  unfold uput
  rw [mem_uins, mem_udel]
theorem uins_rise {x : Us} : ∀ {l : List Us}, RiseU l → (∀ y ∈ l, y.seg ≠ x.seg) → RiseU (uins x l)
  | [], _, _ => List.pairwise_singleton _ _
  | z :: r, h, hk => by
    have hz := List.pairwise_cons.1 h
    unfold uins
    split
    · rename_i hb
      refine List.Pairwise.cons (fun y hy => ?_) h
      rcases List.mem_cons.1 hy with rfl | hy
      · exact hb
      · exact Int.lt_trans hb (hz.1 y hy)
    · rename_i hb
      refine List.Pairwise.cons (fun y hy => ?_) (uins_rise hz.2 fun y hy => hk y (List.mem_cons_of_mem _ hy))
      rcases mem_uins.1 hy with rfl | hy
      · have := hk z List.mem_cons_self
        omega
      · exact hz.1 y hy
theorem udel_rise {k : Int} {l : List Us} (h : RiseU l) : RiseU (udel k l) := List.Pairwise.filter _ h
theorem uput_rise {x : Us} {l : List Us} (h : RiseU l) : RiseU (uput x l) := uins_rise (udel_rise h) fun y hy => (mem_udel.1 hy).2
theorem rise_seg {l : List Us} (h : RiseU l) {x y : Us} (hx : x ∈ l) (hy : y ∈ l) (hk : x.seg = y.seg) : x = y := by
  induction l with
  | nil => cases hx
  | cons z r ih =>
    have hz := List.pairwise_cons.1 h
    rcases List.mem_cons.1 hx with e1 | h1 <;> rcases List.mem_cons.1 hy with e2 | h2
    · rw [e1, e2]
    · have := hz.1 y h2; rw [← e1] at this; omega
    · have := hz.1 x h1; rw [← e2] at this; omega
    · exact ih hz.2 h1 h2
theorem ufind_some {k : Int} {l : List Us} {x : Us} (h : RiseU l) : ufind k l = some x ↔ x ∈ l ∧ x.seg = k := by
  constructor
  · intro hf
    exact ⟨List.mem_of_find?_eq_some hf, by simpa using List.find?_some hf⟩
  · rintro ⟨hm, hk⟩
    unfold ufind
    cases hf : l.find? fun p => p.seg == k with
    | none =>
      have := List.find?_eq_none.1 hf x hm
      simp [hk] at this
    | some y =>
      have h1 := List.mem_of_find?_eq_some hf
      have h2 : y.seg = k := by simpa using List.find?_some hf
      rw [rise_seg h h1 hm (h2.trans hk.symm)]
theorem ufind_none {k : Int} {l : List Us} : ufind k l = none ↔ ∀ x ∈ l, x.seg ≠ k := by
  unfold ufind
  rw [List.find?_eq_none]
  simp
theorem ufind_put {x : Us} {l : List Us} (h : RiseU l) (k : Int) : ufind k (uput x l) = if x.seg = k then some x else ufind k l := by
  by_cases hk : x.seg = k
  · rw [if_pos hk]
    exact (ufind_some (uput_rise h)).2 ⟨mem_uput.2 (.inl rfl), hk⟩
  · rw [if_neg hk]
    cases hf : ufind k l with
    | some y =>
      obtain ⟨h1, h2⟩ := (ufind_some h).1 hf
      exact (ufind_some (uput_rise h)).2 ⟨mem_uput.2 (.inr ⟨h1, fun e => hk (e.symm.trans h2)⟩), h2⟩
    | none =>
      refine ufind_none.2 fun y hy e => ?_
      rcases mem_uput.1 hy with rfl | ⟨h1, _⟩
      · exact hk e
      · exact ufind_none.1 hf y h1 e
theorem ufind_del {k' : Int} {l : List Us} (h : RiseU l) (k : Int) : ufind k (udel k' l) = if k' = k then none else ufind k l := by
  by_cases hk : k' = k
  · rw [if_pos hk]
    exact ufind_none.2 fun y hy => hk ▸ (mem_udel.1 hy).2
  · rw [if_neg hk]
    cases hf : ufind k l with
    | some y =>
      obtain ⟨h1, h2⟩ := (ufind_some h).1 hf
      exact (ufind_some (udel_rise h)).2 ⟨mem_udel.2 ⟨h1, fun e => hk (e.symm.trans h2)⟩, h2⟩
    | none => exact ufind_none.2 fun y hy => ufind_none.1 hf y (mem_udel.1 hy).1
theorem uins_length (x : Us) : ∀ l : List Us, (uins x l).length = l.length + 1
  | [] => rfl
  | y :: r => by
    unfold uins
    split
    · rfl
    · rw [List.length_cons, uins_length x r, List.length_cons]
theorem uput_length (x : Us) (l : List Us) : (uput x l).length ≤ l.length + 1 := by
  unfold uput
  rw [uins_length]
  have : (udel x.seg l).length ≤ l.length := List.length_filter_le _ _
  omega
/-- Two that rise and have the same ones are one. -/
theorem rise_sameU : ∀ {a b : List Us}, RiseU a → RiseU b → (∀ h, h ∈ a ↔ h ∈ b) → a = b
  | [], [], _, _, _ => rfl
  | [], y :: b, _, _, h => by have := (h y).2 List.mem_cons_self; cases this
  | x :: a, [], _, _, h => by have := (h x).1 List.mem_cons_self; cases this
  | x :: a, y :: b, ha, hb, h => by
    have h1 := List.pairwise_cons.1 ha
    have h2 := List.pairwise_cons.1 hb
    have e : x = y := by
      rcases List.mem_cons.1 ((h x).1 List.mem_cons_self) with e | hx
      · exact e
      · rcases List.mem_cons.1 ((h y).2 List.mem_cons_self) with e | hy
        · exact e.symm
        · have k1 := h1.1 y hy
          have k2 := h2.1 x hx
          omega
    subst e
    have no1 : ∀ u ∈ a, u ≠ x := fun u hu e => by have := h1.1 u hu; rw [e] at this; omega
    have no2 : ∀ u ∈ b, u ≠ x := fun u hu e => by have := h2.1 u hu; rw [e] at this; omega
    rw [rise_sameU h1.2 h2.2 fun u => ⟨fun hu => ?_, fun hu => ?_⟩]
    · rcases List.mem_cons.1 ((h u).1 (List.mem_cons_of_mem _ hu)) with e | hu'
      · exact absurd e (no1 u hu)
      · exact hu'
    · rcases List.mem_cons.1 ((h u).2 (List.mem_cons_of_mem _ hu)) with e | hu'
      · exact absurd e (no2 u hu)
      · exact hu'

/-! What is put, killed, dropped. -/
def useOf (k : Int) (l : List Us) : Us := (ufind k l).getD ⟨0, 0, 0⟩
def hasU (k : Int) (l : List Us) : Bool := (ufind k l).isSome
def sumA (l : List Us) : Int := (l.map (·.all)).sum
def sumL (l : List Us) : Int := (l.map (·.live)).sum
def putB (k n : Int) (l : List Us) : Bool := decide (0 ≤ k ∧ k ≤ 99999999 ∧ 0 ≤ n ∧ n ≤ 1099511627776 ∧ (useOf k l).all + n ≤ 1125899906842624)
def newU (k n : Int) (live : Bool) (l : List Us) : Us := ⟨k, (useOf k l).all + n, (useOf k l).live + if live then n else 0⟩
def putU (k n : Int) (live : Bool) (l : List Us) : List Us := if putB k n l = true then uput (newU k n live l) l else l
def killB (k n : Int) (l : List Us) : Bool := hasU k l && decide (0 ≤ n ∧ n ≤ (useOf k l).live)
def killU (k n : Int) (l : List Us) : List Us := if killB k n l = true then uput ⟨k, (useOf k l).all, (useOf k l).live - n⟩ l else l
def dropU (k : Int) (l : List Us) : List Us := udel k l
/-- Each in its bounds; in all no more than M; no more segments than N. -/
structure UOk (M N : Nat) (l : List Us) : Prop where
  rise : RiseU l
  each : ∀ x ∈ l, 0 ≤ x.seg ∧ x.seg ≤ 99999999 ∧ 0 ≤ x.live ∧ x.live ≤ x.all ∧ x.all ≤ 1125899906842624
  sum : sumA l ≤ M
  few : l.length ≤ N
theorem sum_uins (f : Us → Int) (x : Us) : ∀ l : List Us, ((uins x l).map f).sum = f x + (l.map f).sum
  | [] => by simp [uins]
  | y :: r => by
    unfold uins
    split
    · simp
    · rw [List.map_cons, List.sum_cons, sum_uins f x r, List.map_cons, List.sum_cons]
      omega
theorem udel_none {k : Int} {l : List Us} (h : ufind k l = none) : udel k l = l := by
  unfold udel
  refine List.filter_eq_self.2 fun x hx => ?_
  have := ufind_none.1 h x hx
  simpa using this
theorem sum_udel (f : Us → Int) {k : Int} : ∀ {l : List Us}, RiseU l → ∀ {x : Us}, ufind k l = some x → ((udel k l).map f).sum = (l.map f).sum - f x
  | [], _, x, h => by cases h
  | y :: r, hr, x, h => by
    have hz := List.pairwise_cons.1 hr
    by_cases e : y.seg = k
    · have hx : y = x := by
        unfold ufind at h
        rw [List.find?_cons_of_pos (by simpa using e)] at h
        exact Option.some.inj h
      subst hx
      have hn : ufind k r = none := ufind_none.2 fun z hz' e' => by have := hz.1 z hz'; omega
      have h1 : udel k (y :: r) = udel k r := by unfold udel; rw [List.filter_cons_of_neg (by simpa using e)]
      rw [h1, udel_none hn, List.map_cons, List.sum_cons]
      omega
    · have h1 : udel k (y :: r) = y :: udel k r := by unfold udel; rw [List.filter_cons_of_pos (by simpa using e)]
      have h2 : ufind k r = some x := by
        unfold ufind at h ⊢
        rwa [List.find?_cons_of_neg (by simpa using e)] at h
      rw [h1, List.map_cons, List.sum_cons, sum_udel f hz.2 h2, List.map_cons, List.sum_cons]
      omega
def at0 (f : Us → Int) (k : Int) (l : List Us) : Int := match ufind k l with
  | some x => f x
  | none => 0
theorem sum_uput (f : Us → Int) {x : Us} {l : List Us} (h : RiseU l) : ((uput x l).map f).sum = (l.map f).sum - at0 f x.seg l + f x := by
  unfold uput at0
  rw [sum_uins]
  cases hf : ufind x.seg l with
  | none => rw [udel_none hf]; dsimp only; omega
  | some y => rw [sum_udel f h hf]; dsimp only; omega
theorem at0_all {k : Int} {l : List Us} : at0 (·.all) k l = (useOf k l).all := by
  unfold at0 useOf
  cases ufind k l <;> rfl
theorem at0_live {k : Int} {l : List Us} : at0 (·.live) k l = (useOf k l).live := by
  unfold at0 useOf
  cases ufind k l <;> rfl
theorem UOk.use {M N : Nat} {l : List Us} (h : UOk M N l) (k : Int) : 0 ≤ (useOf k l).live ∧ (useOf k l).live ≤ (useOf k l).all ∧ (useOf k l).all ≤ 1125899906842624 := by
  unfold useOf
  cases hf : ufind k l with
  | none => exact ⟨Int.le_refl _, Int.le_refl _, by decide⟩
  | some x =>
    obtain ⟨_, _, h1, h2, h3⟩ := h.each x ((ufind_some h.rise).1 hf).1
    exact ⟨h1, h2, h3⟩
theorem UOk.put {M N : Nat} {l : List Us} (h : UOk M N l) (k n : Int) (live : Bool) : UOk (M + 1099511627776) (N + 1) (putU k n live l) := by
  unfold putU
  by_cases hb : putB k n l = true
  · rw [if_pos hb]
    unfold putB at hb
    obtain ⟨h1, h2, h3, h4, h5⟩ := of_decide_eq_true hb
    obtain ⟨u1, u2, u3⟩ := h.use k
    refine ⟨uput_rise h.rise, fun x hx => ?_, ?_, ?_⟩
    · rcases mem_uput.1 hx with rfl | ⟨hx, _⟩
      · unfold newU
        cases live <;> simp only [if_true, Bool.false_eq_true, if_false] <;> refine ⟨h1, h2, ?_, ?_, h5⟩ <;> omega
      · exact h.each x hx
    · unfold sumA
      rw [sum_uput _ h.rise]
      have h6 := h.sum
      unfold sumA at h6
      show _ - at0 _ k l + ((useOf k l).all + n) ≤ _
      rw [at0_all]
      omega
    · have := uput_length (newU k n live l) l
      have := h.few
      omega
  · rw [if_neg hb]
    exact ⟨h.rise, h.each, by have := h.sum; omega, by have := h.few; omega⟩
theorem UOk.kill {M N : Nat} {l : List Us} (h : UOk M N l) (k n : Int) : UOk M N (killU k n l) := by
  unfold killU
  by_cases hb : killB k n l = true
  · rw [if_pos hb]
    unfold killB at hb
    rw [Bool.and_eq_true] at hb
    obtain ⟨hs, hb⟩ := hb
    obtain ⟨h1, h2⟩ := of_decide_eq_true hb
    obtain ⟨u1, u2, u3⟩ := h.use k
    unfold hasU at hs
    obtain ⟨y, hy⟩ := Option.isSome_iff_exists.1 hs
    have hm := (ufind_some h.rise).1 hy
    have hu : useOf k l = y := by unfold useOf; rw [hy]; rfl
    refine ⟨uput_rise h.rise, fun x hx => ?_, ?_, ?_⟩
    · rcases mem_uput.1 hx with rfl | ⟨hx, _⟩
      · have := h.each y hm.1
        rw [hm.2] at this
        refine ⟨this.1, this.2.1, ?_, ?_, u3⟩ <;> dsimp only <;> omega
      · exact h.each x hx
    · unfold sumA
      rw [sum_uput _ h.rise]
      have h6 := h.sum
      unfold sumA at h6
      show _ - at0 _ k l + (useOf k l).all ≤ _
      rw [at0_all]
      omega
    · unfold uput
      rw [uins_length]
      have h7 := h.few
      have h8 : (udel k l).length < l.length := by
        unfold udel
        refine List.length_filter_lt_length_iff_exists.2 ⟨y, hm.1, ?_⟩
        simp [hm.2]
      show (udel k l).length + 1 ≤ N
      omega
  · rw [if_neg hb]
    exact h
theorem UOk.drop {M N : Nat} {l : List Us} (h : UOk M N l) (k : Int) : UOk M N (dropU k l) := by
  refine ⟨udel_rise h.rise, fun x hx => h.each x (mem_udel.1 hx).1, ?_, Nat.le_trans (List.length_filter_le _ _) h.few⟩
  have h6 := h.sum
  unfold sumA at h6 ⊢
  unfold dropU
  cases hf : ufind k l with
  | none => rw [udel_none hf]; exact h6
  | some x =>
    rw [sum_udel _ h.rise hf]
    have := h.each x ((ufind_some h.rise).1 hf).1
    omega
theorem UOk.nil : UOk 0 0 [] := ⟨List.Pairwise.nil, fun x hx => (by cases hx), Int.le_refl _, Nat.le_refl _⟩
theorem UOk.mono {M N M' N' : Nat} {l : List Us} (h : UOk M N l) (h1 : M ≤ M') (h2 : N ≤ N') : UOk M' N' l := ⟨h.rise, h.each, by have := h.sum; omega, Nat.le_trans h.few h2⟩
theorem sum_part {f : Us → Int} : ∀ {l : List Us}, (∀ x ∈ l, 0 ≤ f x) → 0 ≤ (l.map f).sum
  | [], _ => by simp
  | y :: r, h => by
    have h1 := h y List.mem_cons_self
    have h2 := sum_part (f := f) (l := r) fun x hx => h x (List.mem_cons_of_mem _ hx)
    rw [List.map_cons, List.sum_cons]
    omega
theorem sumL_le : ∀ {l : List Us}, (∀ x ∈ l, x.live ≤ x.all) → sumL l ≤ sumA l
  | [], _ => by simp [sumL, sumA]
  | y :: r, h => by
    have h1 := h y List.mem_cons_self
    have h2 := sumL_le (l := r) fun x hx => h x (List.mem_cons_of_mem _ hx)
    unfold sumL sumA at *
    rw [List.map_cons, List.sum_cons, List.map_cons, List.sum_cons]
    omega
theorem sum_perm {a b : List Int} (h : a.Perm b) : a.sum = b.sum := by
  induction h with
  | nil => rfl
  | cons x _ ih => rw [List.sum_cons, List.sum_cons, ih]
  | swap x y l => rw [List.sum_cons, List.sum_cons, List.sum_cons, List.sum_cons]; omega
  | trans _ _ h1 h2 => exact h1.trans h2
/-- The sums of some of them. -/
theorem UOk.perm {M N : Nat} {l p q : List Us} (h : UOk M N l) (hp : (p ++ q).Perm l) : 0 ≤ sumA p ∧ sumA p ≤ M ∧ 0 ≤ sumL p ∧ sumL p ≤ M := by
  have h0 : ∀ x ∈ p ++ q, 0 ≤ x.live ∧ x.live ≤ x.all := fun x hx => by
    obtain ⟨_, _, h1, h2, _⟩ := h.each x (hp.mem_iff.1 hx)
    exact ⟨h1, h2⟩
  have hs : ((p ++ q).map (·.all)).sum = sumA l := by
    unfold sumA
    exact sum_perm (hp.map _)
  have h6 := h.sum
  rw [List.map_append, List.sum_append] at hs
  have a1 : 0 ≤ sumA p := sum_part fun x hx => by have := h0 x (List.mem_append_left _ hx); omega
  have a2 : 0 ≤ sumL p := sum_part fun x hx => (h0 x (List.mem_append_left _ hx)).1
  have a3 : 0 ≤ (q.map (·.all)).sum := sum_part fun x hx => by have := h0 x (List.mem_append_right _ hx); omega
  have a4 : sumL p ≤ sumA p := sumL_le fun x hx => (h0 x (List.mem_append_left _ hx)).2
  unfold sumA at *
  omega

/-! The one first of which most is dead. -/
def deadU (x : Us) : Int := x.all - x.live
def ltU (x y : Us) : Bool := decide (deadU y < deadU x ∨ deadU x = deadU y ∧ x.seg < y.seg)
theorem swoU : SWO ltU where
  irrefl x := by unfold ltU; simp
  trans x y z h1 h2 := by
    unfold ltU at *
    rw [decide_eq_true_eq] at *
    omega
  ntrans x y z h1 h2 := by
    unfold ltU at *
    rw [decide_eq_false_iff_not] at *
    omega
/-- In order, each once. -/
def Worst (l w : List Us) : Prop := w.Perm l ∧ w.Pairwise fun x y => ltU y x = false
theorem worst_one {l a b : List Us} (hr : RiseU l) (ha : Worst l a) (hb : Worst l b) : a = b := by
  refine List.Perm.eq_of_pairwise (le := fun x y => ltU y x = false) (fun x y hx hy h1 h2 => ?_) ha.2 hb.2 (ha.1.trans hb.1.symm)
  refine rise_seg hr (ha.1.mem_iff.1 hx) (hb.1.mem_iff.1 hy) ?_
  unfold ltU at h1 h2
  rw [decide_eq_false_iff_not] at h1 h2
  omega

/-! As values, as a map's datum. -/
section
variable {H : Type}
def usE (x : Us) : List Value := [.int .i64 x.seg, .int .i64 x.all, .int .i64 x.live]
def usV (x : Us) : Value := .agg #[.int .i64 x.seg, .int .i64 x.all, .int .i64 x.live]
def usD (x : Us) : DataW H := .agg [.lit (.int .i64 x.seg), .lit (.int .i64 x.all), .lit (.int .i64 x.live)]
def usR (v : Value) : Option (DataW H × List MemPlace) := match v with
  | .agg cs => match cs.toList with
    | [.int .i64 k, .int .i64 a, .int .i64 z] => some (usD ⟨k, a, z⟩, [])
    | _ => none
  | _ => none
theorem usR_mk (x : Us) : usR (H := H) (usV x) = some (usD x, []) := by simp [usR, usV]
theorem usR_inv {v : Value} {y : DataW H × List MemPlace} (h : usR v = some y) : ∃ x : Us, v = usV x ∧ y = (usD x, []) := by
  unfold usR at h
  split at h
  · rename_i cs
    split at h
    · rename_i k a z hc
      injection h with h
      refine ⟨⟨k, a, z⟩, ?_, h.symm⟩
      unfold usV
      congr 1
      rw [← Array.toArray_toList (xs := cs), hc]
    · cases h
  · cases h
theorem usD_inj {x y : Us} (h : usD (H := H) x = usD y) : x = y := by
  obtain ⟨a, b, c⟩ := x
  obtain ⟨a', b', c'⟩ := y
  unfold usD at h
  simp only [DataW.agg.injEq, List.cons.injEq, DataW.lit.injEq, Lit.int.injEq, and_true, true_and] at h
  obtain ⟨rfl, rfl, rfl⟩ := h
  rfl
def encU (l : List Us) : DataW H := .map (l.map fun p => (.int .i64 p.seg, usD p))
theorem insert_encU (x : Us) : ∀ l : List Us, DataW.insert (H := H) (.int .i64 x.seg, usD x) (l.map fun p => (.int .i64 p.seg, usD p)) = (uins x l).map fun p => (.int .i64 p.seg, usD p)
  | [] => rfl
  | y :: r => by
    show (if decide (x.seg < y.seg) = true then _ else _) = _
    unfold uins
    by_cases h : x.seg < y.seg
    · rw [if_pos (by simpa using h), if_pos h]; rfl
    · rw [if_neg (by simpa using h), if_neg h, List.map_cons, ← insert_encU x r]
theorem same_i64 (a b : Int) : (Lit.int .i64 a).sameKey (.int .i64 b) = (a == b) := by
  show decide _ = _
  by_cases h : a = b <;> simp [h]
theorem filter_encU (k : Int) (l : List Us) : (l.map fun p => ((Lit.int .i64 p.seg, usD p) : Lit × DataW H)).filter (fun p => !p.1.sameKey (.int .i64 k)) = (udel k l).map fun p => (.int .i64 p.seg, usD p) := by
  unfold udel
  rw [List.filter_map]
  congr 1
  refine List.filter_congr fun p _ => ?_
  show (!(Lit.int .i64 p.seg).sameKey (.int .i64 k)) = _
  rw [same_i64]
theorem put_encU (x : Us) (l : List Us) : (encU (H := H) l).put (.int .i64 x.seg) (usD x) = encU (uput x l) := by
  unfold encU DataW.put uput
  show DataW.map (DataW.insert _ (List.filter _ _)) = _
  rw [filter_encU, insert_encU]
theorem find_encU (k : Int) (l : List Us) : (l.map fun p => ((Lit.int .i64 p.seg, usD p) : Lit × DataW H)).find? (fun p => p.1.sameKey (.int .i64 k)) = (ufind k l).map fun p => (.int .i64 p.seg, usD p) := by
  unfold ufind
  rw [List.find?_map]
  congr 2
  funext p
  exact same_i64 _ _
theorem at_encU (k : Int) (l : List Us) (z : DataW H) : (encU l).atKey (.int .i64 k) z = match ufind k l with
    | some x => usD x
    | none => z := by
  show (match (l.map fun p => ((Lit.int .i64 p.seg, usD p) : Lit × DataW H)).find? (fun p => p.1.sameKey (.int .i64 k)) with
    | some p => p.2
    | none => z) = _
  rw [find_encU]
  cases ufind k l <;> rfl
theorem has_encU (k : Int) (l : List Us) : Maps.has (encU (H := H) l) (.int .i64 k) = hasU k l := by
  unfold encU hasU ufind
  rw [Maps.has_eq, List.any_map]
  have : ((fun p : Lit × DataW H => p.1.sameKey (.int .i64 k)) ∘ fun p : Us => ((Lit.int .i64 p.seg, usD p) : Lit × DataW H)) = fun p => p.seg == k := by
    funext p
    exact same_i64 _ _
  rw [this, List.isSome_find?]
theorem size_encU (l : List Us) : Maps.size (encU (H := H) l) = l.length := by simp [encU, Maps.size]
theorem keys_encU (l : List Us) : intKeys (encU (H := H) l) = l.map (·.seg) := by
  simp only [encU, intKeys, List.map_map]
  rfl
end
end Go.Proofs.Ytlldcogkcjnejaa
