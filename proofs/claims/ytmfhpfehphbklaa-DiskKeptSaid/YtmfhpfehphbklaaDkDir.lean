/-
  Names in order: what stands where behind a change.
-/
import Derived.Test.YtmfhpfehphbklaaDkFld
namespace Go.Proofs.Ytmfhpfehphbklaa
open Go.RowKit
set_option linter.unusedVariables false
set_option linter.unusedSimpArgs false

theorem find_ins_other {n : Nm} {x : Nm × Nat} (h : x.1 ≠ n) : ∀ l : Dir, Dir.find n (Dir.ins x l) = Dir.find n l
  | [] => by
    unfold Dir.ins Dir.find
    simp [h]
  | y :: r => by
    have ih := find_ins_other h r
    unfold Dir.ins
    split
    · unfold Dir.find
      simp [h]
    · unfold Dir.find at ih ⊢
      rw [List.find?_cons, List.find?_cons]
      split
      · rfl
      · exact ih
theorem find_ins_same {n : Nm} {f : Nat} : ∀ {l : Dir}, (∀ y ∈ l, y.1 ≠ n) → Dir.find n (Dir.ins (n, f) l) = some f
  | [], _ => by
    unfold Dir.ins Dir.find
    simp
  | y :: r, h => by
    have ih := find_ins_same (n := n) (f := f) (l := r) fun z hz => h z (List.mem_cons_of_mem _ hz)
    have hy : (y.1 == n) = false := by rw [beq_eq_false_iff_ne]; exact h y List.mem_cons_self
    unfold Dir.ins
    split
    · unfold Dir.find
      simp
    · unfold Dir.find at ih ⊢
      rw [List.find?_cons, hy]
      exact ih
theorem mem_del {n : Nm} {l : Dir} {y : Nm × Nat} : y ∈ Dir.del n l ↔ y ∈ l ∧ y.1 ≠ n := by
  unfold Dir.del
  rw [List.mem_filter]
  simp
theorem find_del_other {n x : Nm} (h : n ≠ x) : ∀ l : Dir, Dir.find n (Dir.del x l) = Dir.find n l
  | [] => rfl
  | y :: r => by
    have ih := find_del_other h r
    unfold Dir.del Dir.find at ih ⊢
    by_cases hy : y.1 = x
    · have h1 : (y.1 == x) = true := by rw [beq_iff_eq]; exact hy
      have h2 : (y.1 == n) = false := by rw [beq_eq_false_iff_ne, hy]; exact fun e => h e.symm
      rw [List.filter_cons, h1, List.find?_cons, h2]
      exact ih
    · have h1 : (y.1 == x) = false := by rw [beq_eq_false_iff_ne]; exact hy
      rw [List.filter_cons, h1]
      simp only [Bool.not_false, if_true]
      rw [List.find?_cons, List.find?_cons]
      split
      · rfl
      · exact ih
theorem find_del_same (n : Nm) (l : Dir) : Dir.find n (Dir.del n l) = none := by
  unfold Dir.find
  rw [Option.map_eq_none_iff, List.find?_eq_none]
  intro y hy
  have := (mem_del.1 hy).2
  simpa using this
theorem find_put_other {n x : Nm} {f : Nat} (h : n ≠ x) (l : Dir) : Dir.find n (Dir.put x f l) = Dir.find n l := by
  unfold Dir.put
  rw [find_ins_other (fun e => h e.symm), find_del_other h]
theorem find_put_same (n : Nm) (f : Nat) (l : Dir) : Dir.find n (Dir.put n f l) = some f :=
  find_ins_same fun y hy => (mem_del.1 hy).2
theorem find_mem {n : Nm} {f : Nat} {l : Dir} (h : Dir.find n l = some f) : (n, f) ∈ l := by
  unfold Dir.find at h
  obtain ⟨p, hp, e⟩ := Option.map_eq_some_iff.1 h
  have h1 := List.find?_some hp
  have h2 := List.mem_of_find?_eq_some hp
  have h1 : p.1 = n := by simpa using h1
  subst h1; subst e
  exact h2

/-! What was synced, and one more file beside it. -/
/-- The file x, its first bytes kept; what is pending is that others were made. -/
structure KI (m : Dk) (A B : List UInt8) : Prop where
  file : m.files 0 = ⟨A ++ B, A.length⟩
  kept : Dir.find [120] m.kept = some 0
  pend : ∀ c ∈ m.pend, ∃ n f, c = .made n f ∧ n ≠ [120]
  made : 1 ≤ m.made
  other : ∀ n f, n ≠ [120] → Dir.find n m.names = some f → f ≠ 0
section
variable {m : Dk} {A B : List UInt8}
theorem KI.nums (h : KI m A B) {m' : Dk} (h1 : m'.made = m.made) (h2 : m'.names = m.names) (h3 : m'.kept = m.kept) (h4 : m'.pend = m.pend) (h5 : m'.files = m.files) : KI m' A B :=
  ⟨by rw [h5]; exact h.file, by rw [h3]; exact h.kept, by rw [h4]; exact h.pend, by rw [h1]; exact h.made, by rw [h2]; exact h.other⟩
theorem KI.soon (h : KI m A B) : KI m.sooner A B := h.nums rfl rfl rfl rfl rfl
theorem KI.thing (h : KI m A B) {does : Dk → Dk} (hd : KI m.sooner A B → KI (does m.sooner) A B) : KI (m.thing does).1 A B := by
  unfold Dk.thing
  split
  · exact h
  · split
    · exact h.nums rfl rfl rfl rfl rfl
    · split
      · exact h.nums rfl rfl rfl rfl rfl
      · exact (hd h.soon).nums rfl rfl rfl rfl rfl
theorem KI.create (h : KI m A B) {n : Nm} (hn : n ≠ [120]) : KI (m.create n).1 A B := by
  unfold Dk.create
  split
  · exact h
  · split
    · exact h
    · split
      · exact h
      · split
        · exact h
        · refine h.thing fun hs => ⟨?_, ?_, ?_, ?_, ?_⟩
          · show (if 0 = m.sooner.made then _ else _ : Fl) = _
            rw [if_neg (by have := hs.made; omega)]
            exact hs.file
          · exact hs.kept
          · intro c hc
            rcases List.mem_append.1 hc with hc | hc
            · exact hs.pend c hc
            · rw [List.mem_singleton] at hc
              exact ⟨n, m.sooner.made, hc, hn⟩
          · show 1 ≤ m.sooner.made + 1
            omega
          · intro x f hx hf
            have hf : Dir.find x (Dir.put n m.sooner.made m.sooner.names) = some f := hf
            by_cases e : x = n
            · subst e
              rw [find_put_same] at hf
              injection hf with hf
              have := hs.made
              omega
            · rw [find_put_other e] at hf
              exact hs.other x f hx hf
theorem KI.append (h : KI m A B) {n : Nm} (hn : n ≠ [120]) (b : List UInt8) : KI (m.append n b).1 A B := by
  unfold Dk.append
  split
  · exact h
  · split
    · exact h
    · rename_i f hf
      split
      · exact h
      · refine h.thing fun hs => ⟨?_, hs.kept, hs.pend, hs.made, hs.other⟩
        show (if 0 = f then _ else _ : Fl) = _
        rw [if_neg (fun e => h.other n f hn hf e.symm)]
        exact hs.file
theorem redo_find : ∀ (cs : List Ch) (l : Dir), (∀ c ∈ cs, ∃ n f, c = .made n f ∧ n ≠ [120]) → Dir.find [120] (redo cs l) = Dir.find [120] l
  | [], _, _ => rfl
  | c :: cs, l, h => by
    obtain ⟨n, f, rfl, hn⟩ := h c List.mem_cons_self
    show Dir.find [120] (redo cs (Dir.put n f l)) = _
    rw [redo_find cs _ fun c hc => h c (List.mem_cons_of_mem _ hc), find_put_other (fun e => hn e.symm)]
theorem KI.keep (h : KI m A B) (k : Nat) : KI (m.keep k) A B :=
  ⟨h.file, by
    show Dir.find [120] (redo (m.pend.take k) m.kept) = _
    rw [redo_find _ _ fun c hc => h.pend c (List.mem_of_mem_take hc)]
    exact h.kept, fun c hc => (by cases hc), h.made, h.other⟩
theorem KI.syncDir (h : KI m A B) : KI m.syncDir.1 A B := h.thing fun hs => hs.keep _
theorem KI.cuts (h : KI m A B) (x : Int) : KI (m.setCut x) A B := h.nums rfl rfl rfl rfl rfl
/-- Behind a Boot. -/
theorem KI.boot (h : KI m A B) (dirs : Int) (l : List Int) : ∃ n, A.length ≤ n ∧ n ≤ A.length + B.length ∧ (m.boot dirs l).size [120] = ((n : Int), true) ∧ (m.boot dirs l).read [120] 0 n = (some ((A ++ B).take n), 0) := by
  obtain ⟨k, hk⟩ : ∃ k, (min (max dirs 0) (m.pend.length : Int)).toNat = k := ⟨_, rfl⟩
  have hkp := h.keep k
  have hnm : Dir.find [120] (m.boot dirs l).names = some 0 := by
    show Dir.find [120] (m.keep (min (max dirs 0) (m.pend.length : Int)).toNat).kept = _
    rw [hk]
    exact hkp.kept
  have hany : (m.keep k).kept.any (fun p => p.2 == 0) = true := List.any_eq_true.2 ⟨_, find_mem hkp.kept, rfl⟩
  have hfl : (m.boot dirs l).files 0 = (⟨A ++ B, A.length⟩ : Fl).lose (more l 0) := by
    show (if (m.keep (min (max dirs 0) (m.pend.length : Int)).toNat).kept.any (fun p => p.2 == 0) then (m.files 0).lose (more l 0) else m.files 0) = _
    rw [hk, hany, if_pos rfl, h.file]
  obtain ⟨z, hz⟩ : ∃ z, A.length + (min (max (more l 0) 0) (((A ++ B).length : Int) - A.length)).toNat = z := ⟨_, rfl⟩
  have hlo : (⟨A ++ B, A.length⟩ : Fl).lose (more l 0) = ⟨(A ++ B).take z, z⟩ := by
    unfold Fl.lose
    dsimp only
    rw [hz]
  rw [List.length_append] at hz
  have hz1 : A.length ≤ z := by omega
  have hz2 : z ≤ A.length + B.length := by omega
  have hlen : ((A ++ B).take z).length = z := by rw [List.length_take, List.length_append]; omega
  refine ⟨z, hz1, hz2, ?_, ?_⟩
  · rw [size_some hnm, hfl, hlo, hlen]
  · unfold Dk.read
    rw [if_neg (by show ¬ false = true; decide), hnm]
    dsimp only
    rw [hfl, hlo]
    dsimp only
    rw [hlen, if_neg (by omega)]
    congr 2
    rw [show (0 : Int).toNat = 0 from rfl, List.drop_zero, Int.toNat_natCast, List.take_take, Nat.min_self]
end
end Go.Proofs.Ytmfhpfehphbklaa
