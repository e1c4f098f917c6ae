/-
  The first so many of keys, in order, plainly.
-/
import Derived.Test.YtadgbobemmfjoaaKsPlain
import Derived.Sort.KeysCollected
namespace Go.Proofs.Ytadgbobemmfjoaa
set_option linter.unusedVariables false
set_option linter.unusedSimpArgs false

theorem kbefore_lt : ∀ {a b : List UInt8}, bytesBefore a b = true → a < b
  | [], [], h => by cases h
  | [], _ :: _, _ => List.Lex.nil
  | _ :: _, [], h => by cases h
  | x :: r, y :: s, h => by
    simp only [bytesBefore, Bool.or_eq_true, decide_eq_true_eq, Bool.and_eq_true, beq_iff_eq] at h
    rcases h with h | ⟨rfl, h⟩
    · exact List.Lex.rel h
    · exact List.Lex.cons (kbefore_lt h)
theorem le_before {a b : List UInt8} : a ≤ b ↔ bytesBefore b a = false := by
  constructor
  · intro h
    rcases hb : bytesBefore b a with _ | _
    · rfl
    · exact absurd (kbefore_lt hb) (List.not_lt.2 h)
  · intro h
    by_cases e : b = a
    · subst e; exact List.le_refl _
    · exact List.le_of_lt (kbefore_lt (kbef_total h e))
abbrev Ks := List (List UInt8)
def Up (l : Ks) : Prop := l.Pairwise fun a b => bytesBefore b a = false
def srt (l : Ks) : Ks := l.mergeSort fun x y => decide (x ≤ y)
theorem srt_up (l : Ks) : Up (srt l) := by
  have h := List.pairwise_mergeSort (le := fun x y : List UInt8 => decide (x ≤ y)) (fun a b c h1 h2 => by simp only [decide_eq_true_eq] at *; exact List.le_trans h1 h2) (fun a b => by simp only [Bool.or_eq_true, decide_eq_true_eq]; exact List.le_total a b) l
  exact h.imp fun h => le_before.1 (by simpa using h)
theorem srt_perm (l : Ks) : (srt l).Perm l := List.mergeSort_perm _ _
theorem srt_of_perm {l m : Ks} (h : l.Perm m) : srt l = srt m := mergeSort_of_perm h
theorem srt_id {l : Ks} (h : Up l) : srt l = l := List.mergeSort_of_pairwise (h.imp fun h => by rw [decide_eq_true_eq]; exact le_before.2 h)
theorem srt_len (l : Ks) : (srt l).length = l.length := List.length_mergeSort _
/-- A key put in its place. -/
def insK (k : List UInt8) : Ks → Ks
  | [] => [k]
  | y :: r => if bytesBefore k y then k :: y :: r else y :: insK k r
theorem insK_perm (k : List UInt8) : ∀ l : Ks, (insK k l).Perm (l ++ [k])
  | [] => List.Perm.refl _
  | y :: r => by
    unfold insK
    split
    · have h1 : (y :: r ++ [k]).Perm (k :: (y :: r)) := List.perm_append_comm (l₁ := y :: r) (l₂ := [k])
      exact h1.symm
    · exact List.Perm.cons y (insK_perm k r)
theorem mem_insK {k x : List UInt8} {l : Ks} : x ∈ insK k l ↔ x = k ∨ x ∈ l := by
  rw [(insK_perm k l).mem_iff]
  simp [or_comm]
theorem le_tr {a b c : List UInt8} (h1 : bytesBefore b a = false) (h2 : bytesBefore c b = false) : bytesBefore c a = false := le_before.1 (List.le_trans (le_before.2 h1) (le_before.2 h2))
theorem insK_up (k : List UInt8) : ∀ {l : Ks}, Up l → Up (insK k l)
  | [], _ => List.pairwise_singleton _ _
  | y :: r, h => by
    obtain ⟨h1, h2⟩ := List.pairwise_cons.1 h
    unfold insK
    split
    · rename_i hy
      refine List.pairwise_cons.2 ⟨fun x hx => ?_, h⟩
      have hk := kbef_asymm hy
      rcases List.mem_cons.1 hx with rfl | hx
      · exact hk
      · exact le_tr hk (h1 x hx)
    · rename_i hy
      refine List.pairwise_cons.2 ⟨fun x hx => ?_, insK_up k h2⟩
      rcases mem_insK.1 hx with rfl | hx
      · simpa using hy
      · exact h1 x hx
theorem srt_snoc (l : Ks) (k : List UInt8) : srt (l ++ [k]) = insK k (srt l) := by
  have h1 : (l ++ [k]).Perm (insK k (srt l)) := (List.Perm.append_right [k] (srt_perm l).symm).trans (insK_perm k _).symm
  rw [srt_of_perm h1, srt_id (insK_up k (srt_up l))]
theorem take_insK (k : List UInt8) : ∀ (m : Nat) (l : Ks), (insK k l).take m = (insK k (l.take m)).take m
  | 0, l => by simp
  | m + 1, [] => by simp
  | m + 1, y :: r => by
    rw [List.take_succ_cons]
    unfold insK
    split
    · rw [List.take_succ_cons, List.take_succ_cons]
      congr 1
      cases m with
      | zero => simp
      | succ m => rw [List.take_succ_cons, List.take_succ_cons, List.take_take, show min m (m + 1) = m by omega]
    · rw [List.take_succ_cons, List.take_succ_cons, take_insK k m r]
theorem take_insK_big (k : List UInt8) : ∀ (m : Nat) (l : Ks), m ≤ l.length → (∀ x ∈ l.take m, bytesBefore k x = false) → (insK k l).take m = l.take m
  | 0, l, _, _ => by simp
  | m + 1, [], h, _ => by simp at h
  | m + 1, y :: r, h, hx => by
    rw [List.take_succ_cons] at hx ⊢
    unfold insK
    rw [if_neg (by rw [hx y (List.mem_cons_self ..)]; decide), List.take_succ_cons]
    congr 1
    exact take_insK_big k m r (by simp at h; omega) fun x hx' => hx x (List.mem_cons_of_mem _ hx')
def fm (m : Nat) (l : Ks) : Ks := (srt l).take m
theorem fm_snoc {m : Nat} {l F : Ks} (h : fm m l = fm m F) (k : List UInt8) : fm m (l ++ [k]) = fm m (F ++ [k]) := by
  unfold fm at *
  rw [srt_snoc, srt_snoc, take_insK k m (srt l), take_insK k m (srt F), h]
theorem fm_len (m : Nat) (l : Ks) : (fm m l).length = min m l.length := by
  unfold fm
  rw [List.length_take, srt_len]
theorem fm_up (m : Nat) (l : Ks) : Up (fm m l) := List.Pairwise.sublist (List.take_sublist _ _) (srt_up l)
theorem fm_fm (m : Nat) (l : Ks) : fm m (fm m l) = fm m l := by
  have h1 : fm m (fm m l) = (fm m l).take m := by
    show (srt (fm m l)).take m = _
    rw [srt_id (fm_up m l)]
  rw [h1]
  unfold fm
  rw [List.take_take, show min m m = m by omega]
theorem fm_big {m : Nat} {F : Ks} {k last : List UInt8} (hm : m ≤ (fm m F).length) (hx : ∀ x ∈ fm m F, bytesBefore last x = false) (hk : bytesBefore last k = true) : fm m (F ++ [k]) = fm m F := by
  unfold fm at *
  rw [srt_snoc]
  refine take_insK_big k m (srt F) (by rw [List.length_take] at hm; omega) fun x hxm => ?_
  exact le_tr (hx x hxm) (kbef_asymm hk)
theorem mem_fm_snoc {m : Nat} {l : Ks} {k x : List UInt8} (h : x ∈ fm m (l ++ [k])) : x = k ∨ x ∈ fm m l := by
  unfold fm at *
  rw [srt_snoc, take_insK] at h
  exact mem_insK.1 (List.mem_of_mem_take h)
def wantK (key : List UInt8) (t : Ks) : Ks := t.filter fun k => !bytesBefore k key
/-- What From's closure holds when it has been told t. -/
structure Frm (key : List UInt8) (m : Nat) (t l : Ks) (cut : Bool) (last : List UInt8) : Prop where
  top : fm m l = fm m (wantK key t)
  len : l.length ≤ t.length
  cut : cut = true → m ≤ l.length ∧ ∀ x ∈ fm m l, bytesBefore last x = false
  pos : 0 < m
theorem Frm.begin {key : List UInt8} {m : Nat} (h : 0 < m) : Frm key m [] [] false [] := ⟨rfl, Nat.le_refl _, fun h => (by cases h), h⟩
theorem wantK_snoc (key : List UInt8) (t : Ks) (k : List UInt8) : wantK key (t ++ [k]) = if bytesBefore k key then wantK key t else wantK key t ++ [k] := by
  unfold wantK
  rw [List.filter_append]
  by_cases h : bytesBefore k key = true
  · simp [h]
  · have h' : bytesBefore k key = false := by simpa using h
    simp [h']
theorem Frm.low {key : List UInt8} {m : Nat} {t l : Ks} {cut : Bool} {last k : List UInt8} (h : Frm key m t l cut last) (hk : bytesBefore k key = true) : Frm key m (t ++ [k]) l cut last :=
  ⟨by rw [wantK_snoc, if_pos hk]; exact h.top, by rw [List.length_append]; have := h.len; omega, h.cut, h.pos⟩
theorem Frm.high {key : List UInt8} {m : Nat} {t l : Ks} {last k : List UInt8} (h : Frm key m t l true last) (hk : bytesBefore last k = true) : Frm key m (t ++ [k]) l true last := by
  obtain ⟨h1, h2⟩ := h.cut rfl
  refine ⟨?_, by rw [List.length_append]; have := h.len; omega, h.cut, h.pos⟩
  rw [wantK_snoc]
  split
  · exact h.top
  · rw [fm_big (last := last) (k := k) ?_ ?_ hk]
    · exact h.top
    · rw [← h.top, fm_len]; omega
    · rw [← h.top]; exact h2
theorem Frm.more {key : List UInt8} {m : Nat} {t l : Ks} {cut : Bool} {last k : List UInt8} (h : Frm key m t l cut last) (hk : bytesBefore k key = false) (hl : cut = true → bytesBefore last k = false) : Frm key m (t ++ [k]) (l ++ [k]) cut last := by
  refine ⟨?_, by rw [List.length_append, List.length_append]; have := h.len; omega, fun hc => ?_, h.pos⟩
  · rw [wantK_snoc, if_neg (by rw [hk]; decide)]
    exact fm_snoc h.top k
  · obtain ⟨h1, h2⟩ := h.cut hc
    refine ⟨by rw [List.length_append]; omega, fun x hx => ?_⟩
    rcases mem_fm_snoc hx with rfl | hx
    · exact hl hc
    · exact h2 x hx
theorem Frm.cutAt {key : List UInt8} {m : Nat} {t l : Ks} {cut : Bool} {last x : List UInt8} (h : Frm key m t l cut last) (hm : m ≤ l.length) (hx : (fm m l)[m - 1]? = some x) : Frm key m t (fm m l) true x := by
  refine ⟨by rw [fm_fm]; exact h.top, by rw [fm_len]; have := h.len; omega, fun _ => ⟨by rw [fm_len]; omega, fun y hy => ?_⟩, h.pos⟩
  rw [fm_fm] at hy
  obtain ⟨j, hj⟩ := List.mem_iff_getElem?.1 hy
  have hjl := (List.getElem?_eq_some_iff.1 hj).1
  have hl := fm_len m l
  by_cases e : j = m - 1
  · subst e
    rw [hj] at hx
    injection hx with hx
    subst hx
    exact kbef_irrefl _
  · have h1 := List.pairwise_iff_getElem.1 (fm_up m l) j (m - 1) hjl (by omega) (by omega)
    rw [(List.getElem?_eq_some_iff.1 hj).2, (List.getElem?_eq_some_iff.1 hx).2] at h1
    exact h1
/-- What From answers, of a sorted list of places. -/
def fromP (key : List UInt8) (m : Nat) (L : List Pl) : Ks := (wantK key (L.map (·.key))).take m
theorem Frm.end_ {key : List UInt8} {m : Nat} {t l : Ks} {cut : Bool} {last : List UInt8} (h : Frm key m t l cut last) {L : List Pl} (hL : Inc L) (ht : t.Perm (L.map (·.key))) : fm m l = fromP key m L := by
  rw [h.top]
  unfold fm fromP
  have h1 : (wantK key t).Perm (wantK key (L.map (·.key))) := List.Perm.filter _ ht
  rw [srt_of_perm h1, srt_id]
  refine List.Pairwise.filter _ ?_
  exact List.pairwise_map.2 (hL.imp fun h => kbef_asymm h)
theorem fromP_all {key : List UInt8} {m : Nat} {L : List Pl} (h : L.length ≤ m) : fromP key m L = wantK key (L.map (·.key)) := by
  unfold fromP
  refine List.take_of_length_le ?_
  have : (wantK key (L.map (·.key))).length ≤ (L.map (·.key)).length := List.length_filter_le _ _
  rw [List.length_map] at this
  omega
theorem wantK_nil (t : Ks) : wantK [] t = t := by
  unfold wantK
  refine List.filter_eq_self.2 fun k _ => ?_
  cases k <;> rfl
end Go.Proofs.Ytadgbobemmfjoaa
