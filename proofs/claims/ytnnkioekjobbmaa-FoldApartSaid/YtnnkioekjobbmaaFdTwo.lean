/-
  A list of hints cut in two; a list and its tombs.
-/
import Derived.Test.YtnnkioekjobbmaaFdRep
namespace Go.Proofs.Ytnnkioekjobbmaa
open Go.RowKit
set_option linter.unusedVariables false
set_option linter.unusedSimpArgs false
attribute [local irreducible] wpF

section
variable {P : Program} {ops : Array Oper} {W : World} {Q : Act → World → Prop} {o : Oper} {rest : List Oper} {fs : List (Fact Grows)} {ks : Known} {a : Act}
theorem f_callK {F : Fact Grows} (f : FuncId) (args : Array Value) (hw : Region.wanted o (yielded ops a.tmps) = true) (h1 : ∀ w, Grows W w → (execOp a.eval o).run P w = .ok (.enter f args) w)
    (hc : ∀ w, Grows W w → ks.for (o.looksAt ops) w → Calls P f args w fun e w' => Grows w w' ∧ ∃ x, e = .returned (F.val x) ∧ F.R x w') (h2 : ∀ x, wpF P ops Grows W Q rest fs ((o.dst, F.R x) :: ks) (a.put o.dst (F.val x))) : wpF P ops Grows W Q (o :: rest) (F :: fs) ks a := by
  unfold wpF fStep
  rw [if_pos hw]
  refine ⟨fun w hW hk => ?_, h2⟩
  unfold gives
  rw [h1 w hW]
  exact hc w hW hk
end
theorem Hts.first4 {w : World} {A : Option Addr} {n c i : Nat} {l : List Ht} (h : Hts w A n c l) (hi : i ≤ n) : Hts w A i c (l.take i) := by
  have hl := h.len
  have hc := h.cap
  refine ⟨by rw [List.length_take]; omega, by omega, h.bare, ?_⟩
  have hr := h.row.first (k := 4 * i) (by omega)
  have e : (l.flatMap htE).take (4 * i) = (l.take i).flatMap htE := by
    rw [← List.take_append_drop i l, List.flatMap_append, List.take_left' (by rw [flat_length htL, List.length_take]; omega)]
    rw [List.take_append_drop]
  rwa [e] at hr
theorem Hts.behind4 {w : World} {A : Option Addr} {n c i : Nat} {l : List Ht} (h : Hts w A n c l) (hi : i ≤ n) : Hts w (if c = i then A else A.map (·.add (i * 4))) (n - i) (c - i) (l.drop i) := by
  have hl := h.len
  have hc := h.cap
  refine ⟨by rw [List.length_drop]; omega, by omega, fun e => ?_, ?_⟩
  · split at e
    · omega
    · rcases A with _ | a
      · have := h.bare rfl; omega
      · cases e
  · have hr := h.row.behind (k := 4 * i) (cap := 4 * c) (by omega) (by omega)
    have e : (l.flatMap htE).drop (4 * i) = (l.drop i).flatMap htE := by
      rw [← List.take_append_drop i l, List.flatMap_append, List.drop_left' (by rw [flat_length htL, List.length_take]; omega)]
      rw [List.take_append_drop]
    rw [e] at hr
    rw [show 4 * (n - i) = 4 * n - 4 * i by omega, Nat.mul_comm i 4]
    by_cases hci : c = i
    · rw [if_pos (by omega)] at hr
      rw [if_pos hci]
      exact hr
    · rw [if_neg (by omega)] at hr
      rw [if_neg hci]
      exact hr
theorem cut_hts {w : World} {A : Option Addr} {n c : Nat} {l : List Ht} (h : Hts w A n c l) {i : Nat} (hi : i ≤ n) (hn : n ≤ 1000000) :
    (∀ w' : World, (Instr.sliceAt 36 (.slice A n c) none (some (.int .i64 (i : Int))) none).run Try.prog w' = .ok (.slice A i c) w') ∧
      ∃ (A2 : Option Addr) (c3 : Nat), (∀ w' : World, (Instr.sliceAt 36 (.slice A n c) (some (.int .i64 (i : Int))) none none).run Try.prog w' = .ok (.slice A2 (n - i) c3) w') ∧ Hts w A2 (n - i) c3 (l.drop i) := by
  have hcap := h.cap
  have hlen := h.len
  have hb := h.behind4 hi
  rcases A with _ | ad
  · have hc := h.bare rfl
    subst hc
    obtain rfl : n = 0 := by omega
    obtain rfl : i = 0 := by omega
    exact ⟨fun w' => by go_simp, none, 0, fun w' => by go_simp, by rwa [List.drop_zero]⟩
  · have k0 : (0 : Int) ≤ (i : Int) := by omega
    have k1 : (i : Int) ≤ (n : Int) := by omega
    have k2 : (n : Int) ≤ (c : Int) := by omega
    have k3 : (i : Int) ≤ (c : Int) := by omega
    have hs0 : ∀ w', (Instr.sliceAt 36 (.slice (some ad) n c) (some (.int .i64 (i : Int))) none none).run Try.prog w' = .ok (.slice (if c = i then some ad else some (ad.add (i * 4))) (n - i) (c - i)) w' := fun w' => by go_simp
    exact ⟨fun w' => by go_simp, if c = i then some ad else some (ad.add (i * 4)), c - i, hs0, hb⟩
theorem lls_two {w : World} {g : Nat} {s t : Sl3} {l k : List Ht} (h : Whole w g 36 #[fslV s, fslV t]) (h1 : Hts w s.1 s.2.1 s.2.2 l) (h2 : Hts w t.1 t.2.1 t.2.2 k) : Lls w (some ⟨g, 0, none⟩) 2 2 [s, t] [l, k] :=
  lls_lit h rfl rfl (fun i s' l' hs hl => by
    match i with
    | 0 => (simp at hs hl; subst hs hl; exact h1)
    | 1 => (simp at hs hl; subst hs hl; exact h2)
    | i + 2 => simp at hs)
theorem ok_two {a b : List Ht} (ha : Rising a) (hb : Rising b) : okFold [1, 2] [a, b] = true := by
  rw [okFold_is rfl]
  simp [(upB_rising a).2 ha, (upB_rising b).2 hb]
theorem manyL_two (a b : List Ht) : manyL [a, b] = a.length + b.length := by simp [manyL]
/-- A list in two parts. -/
def cutsP (k : Nat) (l : List Ht) : List Fp := (l.take k).map (fun x => ((1 : Int), x)) ++ (l.drop k).map fun x => ((2 : Int), x)
theorem cuts_all {l : List Ht} (h : Rising l) (k : Nat) : foldAll [1, 2] [l.take k, l.drop k] = cutsP k l := by
  have h1 : Rising (l.take k) := List.Pairwise.sublist (List.take_sublist _ _) h
  have h2 : Rising (l.drop k) := List.Pairwise.sublist (List.drop_sublist _ _) h
  unfold foldAll
  rw [ok_two h1 h2, if_pos rfl, apart_fold h k, List.map_append, List.map_map, List.map_map]
  rfl
theorem cuts_len (k : Nat) (l : List Ht) : (cutsP k l).length = l.length := by
  unfold cutsP
  rw [List.length_append, List.length_map, List.length_map, ← List.length_append, List.take_append_drop]
theorem cuts_lt {k i : Nat} {l : List Ht} {x : Ht} (h : l[i]? = some x) (hi : i < k) : (cutsP k l)[i]? = some (1, x) := by
  have hl := (List.getElem?_eq_some_iff.1 h).1
  unfold cutsP
  rw [List.getElem?_append_left (by rw [List.length_map, List.length_take]; omega), List.getElem?_map, List.getElem?_take, if_pos hi, h]
  rfl
theorem cuts_ge {k i : Nat} {l : List Ht} {x : Ht} (h : l[i]? = some x) (hi : ¬ i < k) : (cutsP k l)[i]? = some (2, x) := by
  have hl := (List.getElem?_eq_some_iff.1 h).1
  unfold cutsP
  rw [List.getElem?_append_right (by rw [List.length_map, List.length_take]; omega), List.getElem?_map, List.getElem?_drop, List.length_map, List.length_take, show k + (i - min k l.length) = i by omega, h]
  rfl
theorem tombs_all {l : List Ht} (h : Rising l) : foldAll [1, 2] [l, l.map tombP] = (l.map tombP).map fun x => ((2 : Int), x) := by
  unfold foldAll
  rw [ok_two h (tomb_up h), if_pos rfl, tomb_fold h, List.map_map]
  rfl
theorem tombs_dead (l : List Ht) : liveP ((l.map tombP).map fun x => ((2 : Int), x)) = [] := by
  unfold liveP
  rw [List.filter_eq_nil_iff]
  intro p hp
  obtain ⟨x, hx, rfl⟩ := List.mem_map.1 hp
  obtain ⟨y, hy, rfl⟩ := List.mem_map.1 hx
  simp [tombP]
theorem tombs_at {l : List Ht} {i : Nat} {x : Ht} (h : l[i]? = some x) : ((l.map tombP).map fun x => ((2 : Int), x))[i]? = some (2, tombP x) := by
  rw [List.getElem?_map, List.getElem?_map, h]
  rfl
theorem tombs_step {l : List Ht} {i : Nat} {x : Ht} (h : l[i]? = some x) : (l.take (i + 1)).map tombP = (l.take i).map tombP ++ [tombP x] := by
  rw [List.take_add_one, h, List.map_append]
  rfl
end Go.Proofs.Ytnnkioekjobbmaa
