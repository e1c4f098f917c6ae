/-
  Rows cut in two; numbers appended; what Fold answers, by its lists.
-/
import Derived.Test.YtnnkioekjobbmaaFdHead
import Derived.Test.YtnnkioekjobbmaaFdParts
import Derived.Test.YtnnkioekjobbmaaFdRFold
namespace Go.Proofs.Ytnnkioekjobbmaa
open Go.RowKit
set_option linter.unusedVariables false
set_option linter.unusedSimpArgs false
attribute [local irreducible] wpF

theorem tmod_natF (a P R : Nat) (h : a % P = R) : ((a : Nat) : Int).tmod (P : Int) = (R : Int) := by
  subst h
  rw [Int.tmod_eq_emod_of_nonneg (Int.natCast_nonneg a)]
  rfl
def rowT (B n : Nat) (r : Bool) (l : List Fp) : Fact Grows := ⟨Option Addr × Nat, (none, 0), fun q => .tuple #[.slice q.1 n q.2, .bool r], fun q w => OwnPl w B q.1 n q.2 l, fun _ _ _ h g => owned_grow h g⟩
section
variable {P : Program} {ops : Array Oper} {W : World} {Q : Act → World → Prop} {o : Oper} {rest : List Oper} {fs : List (Fact Grows)} {ks : Known} {a : Act}
theorem f_anyF {F : Fact Grows} (x : F.α) (hw : Region.wanted o (yielded ops a.tmps) = true) (h1 : ∀ w, Grows W w → ks.for (o.looksAt ops) w → (execOp a.eval o).run P w = .ok (.value (F.val x)) w ∧ F.R x w)
    (h2 : ∀ x, wpF P ops Grows W Q rest fs ((o.dst, F.R x) :: ks) (a.put o.dst (F.val x))) : wpF P ops Grows W Q (o :: rest) (F :: fs) ks a := by
  unfold wpF fStep
  rw [if_pos hw]
  refine ⟨fun w hW hk => ?_, h2⟩
  unfold gives
  rw [(h1 w hW hk).1]
  exact ⟨Grows.refl w, x, rfl, (h1 w hW hk).2⟩
end
def numsL (n : Nat) : List Int := (List.range n).map fun i : Nat => (i : Int)
theorem numsL_len (n : Nat) : (numsL n).length = n := by simp [numsL]
theorem numsL_get {n i : Nat} (h : i < n) : (numsL n)[i]? = some (i : Int) := by
  unfold numsL
  rw [List.getElem?_map, List.getElem?_range h]
  rfl
theorem numsL_succ (n : Nat) : numsL (n + 1) = numsL n ++ [(n : Int)] := by
  unfold numsL
  rw [List.range_succ, List.map_append]
  rfl
/-- Slices of elements of one cell, cut. -/
theorem Rs.first1 {α : Type} {enc : α → List Value} (hk : ∀ a, (enc a).length = 1) {w : World} {A : Option Addr} {n c i : Nat} {l : List α} (h : Rs w A n c enc 1 l) (hi : i ≤ n) : Rs w A i c enc 1 (l.take i) := by
  have hl := h.len
  have hc := h.cap
  refine ⟨by rw [List.length_take]; omega, by omega, h.bare, ?_⟩
  have hr := h.row.first (k := 1 * i) (by omega)
  have e : (l.flatMap enc).take (1 * i) = (l.take i).flatMap enc := by
    rw [← List.take_append_drop i l, List.flatMap_append, List.take_left' (by rw [flat_length hk, List.length_take]; omega)]
    rw [List.take_append_drop]
  rwa [e] at hr
theorem Rs.behind1 {α : Type} {enc : α → List Value} (hk : ∀ a, (enc a).length = 1) {w : World} {A : Option Addr} {n c i : Nat} {l : List α} (h : Rs w A n c enc 1 l) (hi : i ≤ n) : Rs w (if c = i then A else A.map (·.add i)) (n - i) (c - i) enc 1 (l.drop i) := by
  have hl := h.len
  have hc := h.cap
  refine ⟨by rw [List.length_drop]; omega, by omega, fun e => ?_, ?_⟩
  · split at e
    · omega
    · rcases A with _ | a
      · have := h.bare rfl; omega
      · cases e
  · have hr := h.row.behind (k := i) (cap := c) (by omega) (by omega)
    have e : (l.flatMap enc).drop i = (l.drop i).flatMap enc := by
      rw [← List.take_append_drop i l, List.flatMap_append, List.drop_left' (by rw [flat_length hk, List.length_take]; omega)]
      rw [List.take_append_drop]
    rw [e] at hr
    rw [show 1 * (n - i) = 1 * n - i by omega]
    exact hr
theorem cut_ins {w : World} {A : Option Addr} {n c : Nat} {l : List Int} (h : Ins w A n c l) {i : Nat} (hi : i ≤ n) (hn : n ≤ 1000000) :
    (∀ w' : World, (Instr.sliceAt 22 (.slice A n c) none (some (.int .i64 (i : Int))) none).run Try.prog w' = .ok (.slice A i c) w') ∧
      ∃ (A2 : Option Addr) (c3 : Nat), (∀ w' : World, (Instr.sliceAt 22 (.slice A n c) (some (.int .i64 (i : Int))) none none).run Try.prog w' = .ok (.slice A2 (n - i) c3) w') ∧ Ins w A2 (n - i) c3 (l.drop i) := by
  have hcap := h.cap
  have hlen := h.len
  have hb := h.behind1 inL hi
  rcases A with _ | ad
  · have hc := h.bare rfl
    subst hc
    obtain rfl : n = 0 := by omega
    obtain rfl : i = 0 := by omega
    exact ⟨fun w' => by go_simp, none, 0, fun w' => by go_simp, by rwa [List.drop_zero]⟩
  · have k0 : (0 : Int) ≤ (i : Int) := by omega
    have k1 : (i : Int) ≤ (n : Int) := by omega
    have k2 : (n : Int) ≤ (c : Int) := by omega
    have k3 : (i : Int) ≤ (c : Int) := by omega
    have hs0 : ∀ w', (Instr.sliceAt 22 (.slice (some ad) n c) (some (.int .i64 (i : Int))) none none).run Try.prog w' = .ok (.slice (if c = i then some ad else some (ad.add i)) (n - i) (c - i)) w' := fun w' => by go_simp
    exact ⟨fun w' => by go_simp, if c = i then some ad else some (ad.add i), c - i, hs0, hb⟩
theorem cut_lls {w : World} {A : Option Addr} {n c : Nat} {sl : List Sl3} {ls : List (List Ht)} (h : Lls w A n c sl ls) {i : Nat} (hi : i ≤ n) (hn : n ≤ 1000000) :
    (∀ w' : World, (Instr.sliceAt 23 (.slice A n c) none (some (.int .i64 (i : Int))) none).run Try.prog w' = .ok (.slice A i c) w') ∧ Lls w A i c (sl.take i) (ls.take i) ∧
      ∃ (A2 : Option Addr) (c3 : Nat), (∀ w' : World, (Instr.sliceAt 23 (.slice A n c) (some (.int .i64 (i : Int))) none none).run Try.prog w' = .ok (.slice A2 (n - i) c3) w') ∧ Lls w A2 (n - i) c3 (sl.drop i) (ls.drop i) := by
  have hcap := h.row.cap
  have hlen := h.len
  have hb := h.row.behind1 fslL hi
  have hf : Lls w A i c (sl.take i) (ls.take i) := ⟨h.row.first1 fslL hi, by rw [List.length_take]; omega, fun j s l hs hl => by
    rw [List.getElem?_take] at hs hl
    by_cases e : j < i
    · rw [if_pos e] at hs hl
      exact h.each j s l hs hl
    · rw [if_neg e] at hs; cases hs⟩
  have he : ∀ (j : Nat) (s : Sl3) (l : List Ht), (sl.drop i)[j]? = some s → (ls.drop i)[j]? = some l → Hts w s.1 s.2.1 s.2.2 l := fun j s l hs hl => by
    rw [List.getElem?_drop] at hs hl
    exact h.each _ s l hs hl
  rcases A with _ | ad
  · have hc := h.row.bare rfl
    subst hc
    obtain rfl : n = 0 := by omega
    obtain rfl : i = 0 := by omega
    refine ⟨fun w' => by go_simp, hf, none, 0, fun w' => by go_simp, ?_⟩
    rw [List.drop_zero, List.drop_zero]
    exact h
  · have k0 : (0 : Int) ≤ (i : Int) := by omega
    have k1 : (i : Int) ≤ (n : Int) := by omega
    have k2 : (n : Int) ≤ (c : Int) := by omega
    have k3 : (i : Int) ≤ (c : Int) := by omega
    have hs0 : ∀ w', (Instr.sliceAt 23 (.slice (some ad) n c) (some (.int .i64 (i : Int))) none none).run Try.prog w' = .ok (.slice (if c = i then some ad else some (ad.add i)) (n - i) (c - i)) w' := fun w' => by go_simp
    exact ⟨fun w' => by go_simp, hf, if c = i then some ad else some (ad.add i), c - i, hs0, hb, by rw [List.length_drop]; omega, he⟩
/-- 'append(s, x)' of one number. -/
abbrev OwnIn (w : World) (base : Nat) (A : Option Addr) (n c : Nat) (l : List Int) : Prop := w.ownsRow base 3 1 (.slice A n c) n (l.flatMap inE)
theorem OwnIn.len {w : World} {B : Nat} {A : Option Addr} {n c : Nat} {l : List Int} (h : OwnIn w B A n c l) : l.length = n := by
  have h1 := h.1
  rw [flat_length inL] at h1
  omega
theorem OwnIn.ins {w : World} {B : Nat} {A : Option Addr} {n c : Nat} {l : List Int} (h : OwnIn w B A n c l) : Ins w A n c l := Rs.owned inL h.len h
theorem app_in {w : World} {ty B : Nat} {A : Option Addr} {n c : Nat} {l : List Int} (ho : OwnIn w B A n c l) {g t0 : Nat} (x : Int) (hw : Whole w g t0 #[.int .i64 x]) (hn : n < 1000000) (hB : B ≤ w.heap.size) :
    ∃ A' c' w', (Builtin.append_ #[22, 22] ty #[.slice A n c, .slice (some ⟨g, 0, none⟩) 1 1]).run Try.prog w = .ok (.slice A' (n + 1) c') w' ∧ OwnIn w' B A' (n + 1) c' (l ++ [x]) ∧ w.grownBy w' (Value.slice A n c).ownBlock := by
  obtain ⟨i0, hi0, hz0, hz1, hz2⟩ := info_of infoIn
  have hcell : ∀ (j : Nat) (u : Value), (inE x)[j]? = some u → w.cell? ((⟨g, 0, none⟩ : Addr).add j) = some u := fun j u hj => by
    rw [show (⟨g, 0, none⟩ : Addr).add j = ⟨g, j, none⟩ by unfold Addr.add; split <;> simp_all, hw.cell j]
    simpa [inE] using hj
  obtain ⟨v', w', hr, h2, h3, _, _⟩ := run_append_own_at (P := Try.prog) (w := w) B 22 ty 3 i0 (.int .i64 0) 1 8 Try.underlying22 hi0 hz0 hz1 hz2 rfl (by omega) (.slice A n c) n (l.flatMap inE) ho ⟨g, 0, none⟩ 1 1 (inE x) rfl hcell (inE_one x) (by unfold maxLen; omega) (by omega) hB
  obtain ⟨A', c', rfl⟩ := slice_ownP h2
  exact ⟨A', c', w', hr, by unfold OwnIn; rw [flat_snoc]; exact h2, h3⟩
theorem okFold_is {segs : List Int} {ls : List (List Ht)} (h : segs.length = ls.length) : okFold segs ls = ls.all upB := by
  unfold okFold
  rw [decide_eq_true h, Bool.true_and]
theorem all_up {ls : List (List Ht)} (h : ls.all upB = true) : ∀ l ∈ ls, Rising l := fun l hl => (upB_rising l).1 (List.all_eq_true.1 h l hl)
theorem foldAll_is {segs : List Int} {ls : List (List Ht)} (h : segs.length = ls.length) (hu : ls.all upB = true) : foldAll segs ls = (foldP ls).map (segF segs) := by
  unfold foldAll
  rw [okFold_is h, hu, if_pos rfl]
theorem foldAll_len (segs : List Int) (ls : List (List Ht)) : (foldAll segs ls).length ≤ manyL ls := by
  unfold foldAll
  split
  · rw [List.length_map]; exact foldP_len ls
  · exact Nat.zero_le _
theorem hints_of {segs : List Int} (L : List (Nat × Ht)) : (L.map (segF segs)).map (fun p : Fp => p.2) = L.map fun p => p.2 := by
  rw [List.map_map]
  rfl
end Go.Proofs.Ytnnkioekjobbmaa
