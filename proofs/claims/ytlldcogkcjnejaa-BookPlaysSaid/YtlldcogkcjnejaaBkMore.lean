/-
  What one segment's part in a book is, whatever is done.
-/
import Derived.Test.YtlldcogkcjnejaaBkPlain
namespace Go.Proofs.Ytlldcogkcjnejaa
open Go.RowKit Go.Maps Go.Sort
set_option linter.unusedVariables false
set_option linter.unusedSimpArgs false

theorem putU_other {k s n : Int} {live : Bool} {l : List Us} (h : RiseU l) (hk : s ≠ k) : ufind k (putU s n live l) = ufind k l := by
  unfold putU
  split
  · rw [ufind_put h, if_neg (show ¬ (newU s n live l).seg = k from hk)]
  · rfl
theorem killU_other {k s n : Int} {l : List Us} (h : RiseU l) (hk : s ≠ k) : ufind k (killU s n l) = ufind k l := by
  unfold killU
  split
  · rw [ufind_put h, if_neg (by exact hk)]
  · rfl
theorem dropU_other {k s : Int} {l : List Us} (h : RiseU l) (hk : s ≠ k) : ufind k (dropU s l) = ufind k l := by
  unfold dropU
  rw [ufind_del h, if_neg hk]
theorem useOf_eq {k : Int} {a b : List Us} (h : ufind k a = ufind k b) : useOf k a = useOf k b ∧ hasU k a = hasU k b := by
  unfold useOf hasU
  rw [h]
  exact ⟨rfl, rfl⟩
theorem putB_eq {k n : Int} {a b : List Us} (h : ufind k a = ufind k b) : putB k n a = putB k n b := by
  unfold putB
  rw [(useOf_eq h).1]
theorem killB_eq {k n : Int} {a b : List Us} (h : ufind k a = ufind k b) : killB k n a = killB k n b := by
  unfold killB
  rw [(useOf_eq h).1, (useOf_eq h).2]
theorem putU_same {k n : Int} {live : Bool} {a b : List Us} (ha : RiseU a) (hb : RiseU b) (h : ufind k a = ufind k b) : ufind k (putU k n live a) = ufind k (putU k n live b) := by
  unfold putU
  rw [putB_eq h]
  split
  · rw [ufind_put ha, ufind_put hb, if_pos (show (newU k n live a).seg = k from rfl), if_pos (show (newU k n live b).seg = k from rfl)]
    unfold newU
    rw [(useOf_eq h).1]
  · exact h
theorem killU_same {k n : Int} {a b : List Us} (ha : RiseU a) (hb : RiseU b) (h : ufind k a = ufind k b) : ufind k (killU k n a) = ufind k (killU k n b) := by
  unfold killU
  rw [killB_eq h]
  split
  · rw [ufind_put ha, ufind_put hb, if_pos (by exact rfl), if_pos (by exact rfl), (useOf_eq h).1]
  · exact h
theorem dropU_same {k : Int} {a b : List Us} (ha : RiseU a) (hb : RiseU b) : ufind k (dropU k a) = ufind k (dropU k b) := by
  unfold dropU
  rw [ufind_del ha, ufind_del hb, if_pos rfl, if_pos rfl]
theorem set_rise {l : List Us} {j : Nat} {x y : Us} (h : RiseU l) (hj : l[j]? = some x) (hy : y.seg = x.seg) : RiseU (l.set j y) := by
  have hm : (l.set j y).map (·.seg) = l.map (·.seg) := by
    apply List.ext_getElem?
    intro i
    rw [List.getElem?_map, List.getElem?_map, List.getElem?_set]
    by_cases e : j = i
    · subst e
      have hl := (List.getElem?_eq_some_iff.1 hj).1
      rw [if_pos rfl, if_pos hl, hj]
      simp [hy]
    · rw [if_neg e]
  have h1 : (l.map (·.seg)).Pairwise (· < ·) := List.pairwise_map.2 h
  rw [← hm] at h1
  exact List.pairwise_map.1 h1
/-- In the place of one of the same number. -/
theorem uput_set {l : List Us} {j : Nat} {x y : Us} (h : RiseU l) (hj : l[j]? = some x) (hy : y.seg = x.seg) : uput y l = l.set j y := by
  refine rise_sameU (uput_rise h) (set_rise h hj hy) fun z => ?_
  rw [mem_uput]
  have hjl := (List.getElem?_eq_some_iff.1 hj).1
  constructor
  · rintro (rfl | ⟨h1, h2⟩)
    · exact List.mem_set hjl _
    · obtain ⟨i, hi, rfl⟩ := List.mem_iff_getElem.1 h1
      refine List.mem_iff_getElem.2 ⟨i, by rw [List.length_set]; exact hi, ?_⟩
      rw [List.getElem_set, if_neg]
      intro e
      subst e
      have : l[j] = x := by have := hj; rw [List.getElem?_eq_getElem hi] at this; exact Option.some.inj this
      rw [this] at h2
      exact h2 hy.symm
  · intro hz
    obtain ⟨i, hi, rfl⟩ := List.mem_iff_getElem.1 hz
    rw [List.getElem_set]
    by_cases e : j = i
    · rw [if_pos e]; exact .inl rfl
    · rw [if_neg e]
      rw [List.length_set] at hi
      refine .inr ⟨List.getElem_mem hi, fun hs => ?_⟩
      have h3 := rise_seg h (List.getElem_mem hi) (List.mem_of_getElem? hj) (hs.trans hy)
      have hnd := (List.Pairwise.imp (S := fun a b => a ≠ b) (fun {a b : Us} (hab : a.seg < b.seg) (e : a = b) => by rw [e] at hab; omega) (show l.Pairwise fun x y => x.seg < y.seg from h))
      have h4 : l[j] = x := by have := hj; rw [List.getElem?_eq_getElem hjl] at this; exact Option.some.inj this
      rcases Nat.lt_or_gt_of_ne e with h5 | h5
      · exact List.pairwise_iff_getElem.1 hnd j i hjl hi h5 (h4.trans h3.symm)
      · exact List.pairwise_iff_getElem.1 hnd i j hi hjl h5 (h3.trans h4.symm)
theorem sums_uput {x : Us} {l : List Us} (h : RiseU l) : sumA (uput x l) = sumA l - (useOf x.seg l).all + x.all ∧ sumL (uput x l) = sumL l - (useOf x.seg l).live + x.live := by
  unfold sumA sumL
  rw [sum_uput _ h, sum_uput _ h, at0_all, at0_live]
  exact ⟨rfl, rfl⟩
theorem sums_put {k n : Int} {live : Bool} {l : List Us} (h : RiseU l) (hb : putB k n l = true) : sumA (putU k n live l) = sumA l + n ∧ sumL (putU k n live l) = sumL l + if live then n else 0 := by
  unfold putU
  rw [if_pos hb]
  obtain ⟨h1, h2⟩ := sums_uput (x := newU k n live l) h
  rw [h1, h2]
  unfold newU
  dsimp only
  omega
theorem sums_kill {k n : Int} {l : List Us} (h : RiseU l) (hb : killB k n l = true) : sumA (killU k n l) = sumA l ∧ sumL (killU k n l) = sumL l - n := by
  unfold killU
  rw [if_pos hb]
  obtain ⟨h1, h2⟩ := sums_uput (x := ⟨k, (useOf k l).all, (useOf k l).live - n⟩) h
  rw [h1, h2]
  dsimp only
  omega
theorem sums_drop {k : Int} {l : List Us} (h : RiseU l) : sumA (dropU k l) = sumA l - (useOf k l).all ∧ sumL (dropU k l) = sumL l - (useOf k l).live := by
  unfold dropU useOf
  cases hf : ufind k l with
  | none =>
    rw [udel_none hf]
    show _ = _ - (0 : Int) ∧ _ = _ - (0 : Int)
    omega
  | some x =>
    unfold sumA sumL
    rw [sum_udel _ h hf, sum_udel _ h hf]
    exact ⟨rfl, rfl⟩
theorem drop_none {k : Int} {l : List Us} (h : hasU k l = false) : dropU k l = l := by
  unfold hasU at h
  exact udel_none (by cases hf : ufind k l with | none => rfl | some x => rw [hf] at h; cases h)
theorem sums_in {M N : Nat} {l : List Us} (h : UOk M N l) : 0 ≤ sumA l ∧ sumA l ≤ M ∧ 0 ≤ sumL l ∧ sumL l ≤ M := h.perm (p := l) (q := []) (by rw [List.append_nil])
theorem mem_le_sum : ∀ {l : List Us} {x : Us}, (∀ y ∈ l, 0 ≤ y.all) → x ∈ l → x.all ≤ sumA l
  | y :: r, x, h, hx => by
    have h1 := h y List.mem_cons_self
    have h2 : 0 ≤ sumA r := sum_part fun z hz => h z (List.mem_cons_of_mem _ hz)
    have h3 : sumA (y :: r) = y.all + sumA r := by unfold sumA; rw [List.map_cons, List.sum_cons]
    rcases List.mem_cons.1 hx with rfl | hx
    · omega
    · have := mem_le_sum (fun z hz => h z (List.mem_cons_of_mem _ hz)) hx
      omega
theorem UOk.use_le_sum {M N : Nat} {l : List Us} (h : UOk M N l) (k : Int) : (useOf k l).all ≤ M := by
  have h0 : ∀ y ∈ l, 0 ≤ y.all := fun y hy => by have := h.each y hy; omega
  have hs := h.sum
  unfold useOf
  cases hf : ufind k l with
  | none => show (0 : Int) ≤ M; omega
  | some x =>
    have := mem_le_sum h0 ((ufind_some h.rise).1 hf).1
    show x.all ≤ M
    omega
end Go.Proofs.Ytlldcogkcjnejaa
