/-
  Rows of lists, appended; one list many times, folded.
-/
import Derived.Test.YtnnkioekjobbmaaFdCuts
import Derived.Test.YtnnkioekjobbmaaFdLive
namespace Go.Proofs.Ytnnkioekjobbmaa
open Go.RowKit
set_option linter.unusedVariables false
set_option linter.unusedSimpArgs false

/-- 'append(s, x)' of one list. -/
abbrev OwnLl (w : World) (base : Nat) (A : Option Addr) (n c : Nat) (l : List Sl3) : Prop := w.ownsRow base 36 1 (.slice A n c) n (l.flatMap fslE)
theorem OwnLl.len {w : World} {B : Nat} {A : Option Addr} {n c : Nat} {l : List Sl3} (h : OwnLl w B A n c l) : l.length = n := by
  have h1 := h.1
  rw [flat_length fslL] at h1
  omega
theorem OwnLl.rs {w : World} {B : Nat} {A : Option Addr} {n c : Nat} {l : List Sl3} (h : OwnLl w B A n c l) : Rs w A n c fslE 1 l := Rs.owned fslL h.len h
theorem infoLl : (Try.prog.info? 36).map (fun i => (i.zero, i.size, i.bytes)) = some (some (.slice none 0 0), 1, 24) := by kernel_rfl
theorem fslE_one (x : Sl3) : ∀ u ∈ fslE x, u.oneCell' = true := by
  intro u hu
  simp only [fslE, List.mem_singleton] at hu
  subst hu
  rfl
theorem app_ll {w : World} {ty B : Nat} {A : Option Addr} {n c : Nat} {l : List Sl3} (ho : OwnLl w B A n c l) {g t0 : Nat} (x : Sl3) (hw : Whole w g t0 #[fslV x]) (hn : n < 1000000) (hB : B ≤ w.heap.size) :
    ∃ A' c' w', (Builtin.append_ #[23, 23] ty #[.slice A n c, .slice (some ⟨g, 0, none⟩) 1 1]).run Try.prog w = .ok (.slice A' (n + 1) c') w' ∧ OwnLl w' B A' (n + 1) c' (l ++ [x]) ∧ w.grownBy w' (Value.slice A n c).ownBlock := by
  obtain ⟨i0, hi0, hz0, hz1, hz2⟩ := info_of infoLl
  have hcell : ∀ (j : Nat) (u : Value), (fslE x)[j]? = some u → w.cell? ((⟨g, 0, none⟩ : Addr).add j) = some u := fun j u hj => by
    rw [show (⟨g, 0, none⟩ : Addr).add j = ⟨g, j, none⟩ by unfold Addr.add; split <;> simp_all, hw.cell j]
    simpa [fslE] using hj
  obtain ⟨v', w', hr, h2, h3, _, _⟩ := run_append_own_at (P := Try.prog) (w := w) B 23 ty 36 i0 (.slice none 0 0) 1 24 Try.underlying23 hi0 hz0 hz1 hz2 rfl (by omega) (.slice A n c) n (l.flatMap fslE) ho ⟨g, 0, none⟩ 1 1 (fslE x) rfl hcell (fslE_one x) (by unfold maxLen; omega) (by omega) hB
  obtain ⟨A', c', rfl⟩ := slice_ownP h2
  exact ⟨A', c', w', hr, by unfold OwnLl; rw [flat_snoc]; exact h2, h3⟩
/-- Two rows of unlike types lie in unlike blocks. -/
theorem own_apartF {w : World} {b1 b2 : Nat} {e1 e2 : TypeId} {s1 s2 : Nat} {v1 v2 : Value} {n1 n2 : Nat} {xs1 xs2 : List Value} (h1 : w.ownsRow b1 e1 s1 v1 n1 xs1) (h2 : w.ownsRow b2 e2 s2 v2 n2 xs2) (hne : e1 ≠ e2) : v1.ownBlock = none ∨ v1.ownBlock ≠ v2.ownBlock := by
  rcases h1.2 with ⟨rfl, _⟩ | ⟨g, cap, cur, rfl, _, hg, _⟩
  · exact .inl rfl
  refine .inr fun e => ?_
  rcases h2.2 with ⟨rfl, _⟩ | ⟨g', cap', cur', rfl, _, hg', _⟩
  · simp [Value.ownBlock] at e
  · obtain rfl : g = g' := by simpa [Value.ownBlock] using e
    rw [hg] at hg'
    injection hg' with hg'
    injection hg' with _ ht _
    exact hne ht
theorem own_beside {w w' : World} {b1 b2 : Nat} {e1 e2 : TypeId} {s1 s2 : Nat} {v1 v2 : Value} {n1 n2 : Nat} {xs1 xs2 : List Value} (h1 : w.ownsRow b1 e1 s1 v1 n1 xs1) (h2 : w.ownsRow b2 e2 s2 v2 n2 xs2) (hne : e1 ≠ e2) (hg : w.grownBy w' v2.ownBlock) : w'.ownsRow b1 e1 s1 v1 n1 xs1 := h1.kept hg (own_apartF h1 h2 hne)
/-- One list many times. -/
def repL {α : Type} (n : Nat) (x : α) : List α := List.replicate n x
theorem repL_succ {α : Type} (n : Nat) (x : α) : repL (n + 1) x = repL n x ++ [x] := List.replicate_succ'
theorem repL_len {α : Type} (n : Nat) (x : α) : (repL n x).length = n := List.length_replicate
theorem repL_get {α : Type} {n i : Nat} {x y : α} (h : (repL n x)[i]? = some y) : y = x := by
  unfold repL at h
  rw [List.getElem?_replicate] at h
  split at h
  · injection h with h; exact h.symm
  · cases h
theorem lls_rep {w : World} {A : Option Addr} {n c : Nat} {s : Sl3} {l : List Ht} (h : Rs w A n c fslE 1 (repL n s)) (hh : Hts w s.1 s.2.1 s.2.2 l) : Lls w A n c (repL n s) (repL n l) :=
  ⟨h, repL_len n l, fun i s' l' h1 h2 => by rw [repL_get h1, repL_get h2]; exact hh⟩
theorem lls_rep2 {w : World} {A : Option Addr} {n c : Nat} {s : Sl3} {l : List Ht} (h : Rs w A (n + 1) c fslE 1 (repL n s ++ [(none, 0, 0)])) (hh : Hts w s.1 s.2.1 s.2.2 l) : Lls w A (n + 1) c (repL n s ++ [(none, 0, 0)]) (repL n l ++ [[]]) :=
  ⟨h, by rw [List.length_append, repL_len]; rfl, fun i s' l' h1 h2 => by
    by_cases hi : i < n
    · rw [List.getElem?_append_left (by rw [repL_len]; exact hi)] at h1 h2
      rw [repL_get h1, repL_get h2]; exact hh
    · rw [List.getElem?_append_right (by rw [repL_len]; omega), repL_len] at h1 h2
      match e : i - n with
      | 0 =>
        rw [e] at h1 h2
        simp at h1 h2
        subst h1 h2
        exact Rs.nil w
      | j + 1 => rw [e] at h1; simp at h1⟩
theorem manyL_rep (n : Nat) (l : List Ht) : manyL (repL n l) = n * l.length := by
  unfold manyL repL
  rw [List.map_replicate, List.sum_replicate_nat]
theorem manyL_snoc (ls : List (List Ht)) : manyL (ls ++ [[]]) = manyL ls := by
  unfold manyL
  rw [List.map_append, List.sum_append]
  rfl
theorem ok_rep {segs : List Int} (r : Nat) (l : List Ht) (hs : segs.length = r + 1) : okFold segs (repL (r + 1) l) = upB l := by
  rw [okFold_is (by rw [hs, repL_len])]
  unfold repL
  rw [List.all_replicate]
  simp
theorem ok_rep2 {segs : List Int} (r : Nat) (l : List Ht) (hs : segs.length = r + 2) : okFold segs (repL (r + 1) l ++ [[]]) = upB l := by
  rw [okFold_is (by rw [hs, List.length_append, repL_len]; rfl), List.all_append]
  unfold repL
  rw [List.all_replicate]
  simp [upB]
theorem rep_all {segs : List Int} {r : Nat} {l : List Ht} (hs : segs.length = r + 1) (hr : segs.getD r 0 = (r : Int)) (hu : upB l = true) : foldAll segs (repL (r + 1) l) = l.map fun x => ((r : Int), x) := by
  unfold foldAll
  rw [ok_rep r l hs, hu, if_pos rfl]
  unfold repL
  rw [same_fold ((upB_rising l).1 hu), List.map_map]
  refine List.map_congr_left fun x _ => ?_
  show (segs.getD r 0, x) = _
  rw [hr]
theorem rep_all2 {segs : List Int} {r : Nat} {l : List Ht} (hs : segs.length = r + 2) (hr : segs.getD r 0 = (r : Int)) (hu : upB l = true) : foldAll segs (repL (r + 1) l ++ [[]]) = l.map fun x => ((r : Int), x) := by
  unfold foldAll
  rw [ok_rep2 r l hs, hu, if_pos rfl]
  unfold repL
  rw [same_fold2 ((upB_rising l).1 hu), List.map_map]
  refine List.map_congr_left fun x _ => ?_
  show (segs.getD r 0, x) = _
  rw [hr]
theorem num_at (r : Nat) : (numsL (r + 1)).getD r 0 = (r : Int) := by
  rw [List.getD_eq_getElem?_getD, numsL_get (Nat.lt_succ_self r)]
  rfl
theorem num_at2 (r : Nat) (x : Int) : (numsL (r + 1) ++ [x]).getD r 0 = (r : Int) := by
  rw [List.getD_eq_getElem?_getD, List.getElem?_append_left (by rw [numsL_len]; omega), numsL_get (Nat.lt_succ_self r)]
  rfl
theorem live_live (L : List Fp) : liveP (liveP L) = liveP L := by
  unfold liveP
  rw [List.filter_filter]
  simp
end Go.Proofs.Ytnnkioekjobbmaa
