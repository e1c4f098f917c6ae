/-
  A disk does not grow too great: what each call adds at most.
-/
import Derived.Test.YtmfhpfehphbklaaDkBoot
namespace Go.Proofs.Ytmfhpfehphbklaa
open Go.RowKit Go.Maps Go.WideMaps
set_option linter.unusedVariables false
set_option linter.unusedSimpArgs false

/-- Nothing of a disk is more than K. -/
structure DkOk (K : Nat) (m : Dk) : Prop where
  cut : -1 ≤ m.cut ∧ m.cut ≤ 9223372036854775807
  fail : -1 ≤ m.fail ∧ m.fail ≤ 9223372036854775807
  made : m.made ≤ K
  pend : m.kept.length + m.pend.length ≤ K
  names : m.names.length ≤ K
  bytes : ∀ i, i < m.made → (m.files i).bytes.length ≤ K ∧ (m.files i).kept ≤ (m.files i).bytes.length
section
variable {K K' : Nat} {m : Dk}
theorem DkOk.fit (h : DkOk K m) (hK : K ≤ 1000000000) : DkFit m :=
  ⟨h.cut, h.fail, Nat.le_trans h.made hK, by have := h.pend; omega, Nat.le_trans h.names hK, by have := h.pend; omega, fun i hi => ⟨Nat.le_trans (h.bytes i hi).1 hK, (h.bytes i hi).2⟩⟩
theorem DkOk.mono (h : DkOk K m) (hK : K ≤ K') : DkOk K' m :=
  ⟨h.cut, h.fail, Nat.le_trans h.made hK, Nat.le_trans h.pend hK, Nat.le_trans h.names hK, fun i hi => ⟨Nat.le_trans (h.bytes i hi).1 hK, (h.bytes i hi).2⟩⟩
theorem DkOk.new (x : Int) : DkOk 0 (Dk.new x) :=
  ⟨by simp [Dk.new], by simp [Dk.new], by simp [Dk.new], by simp [Dk.new], by simp [Dk.new], fun i hi => absurd hi (Nat.not_lt_zero _)⟩
theorem DkOk.nums (h : DkOk K m) {m' : Dk} (hc : -1 ≤ m'.cut ∧ m'.cut ≤ 9223372036854775807) (hf : -1 ≤ m'.fail ∧ m'.fail ≤ 9223372036854775807) (h1 : m'.made = m.made) (h2 : m'.names = m.names) (h3 : m'.kept = m.kept) (h4 : m'.pend = m.pend) (h5 : m'.files = m.files) : DkOk K m' :=
  ⟨hc, hf, h1 ▸ h.made, by rw [h3, h4]; exact h.pend, h2 ▸ h.names, fun i hi => by rw [h5]; exact h.bytes i (h1 ▸ hi)⟩
theorem DkOk.fails (h : DkOk K m) (x : Int) (hx : x ≤ 9223372036854775807) : DkOk K (m.setFail x) :=
  h.nums h.cut (by have := h.fail; unfold Dk.setFail; dsimp only; split <;> omega) rfl rfl rfl rfl rfl
theorem DkOk.cuts (h : DkOk K m) (x : Int) (hx : x ≤ 9223372036854775807) : DkOk K (m.setCut x) :=
  h.nums (by have := h.cut; unfold Dk.setCut; dsimp only; split <;> omega) h.fail rfl rfl rfl rfl rfl
theorem sooner_in {x : Int} (h : -1 ≤ x ∧ x ≤ 9223372036854775807) : -1 ≤ sooner x ∧ sooner x ≤ 9223372036854775807 := by unfold sooner; split <;> omega
theorem DkOk.soon (h : DkOk K m) : DkOk K m.sooner := h.nums (sooner_in h.cut) (sooner_in h.fail) rfl rfl rfl rfl rfl
theorem DkOk.thing (h : DkOk K m) (hK : K ≤ K') {does : Dk → Dk} (hd : DkOk K m.sooner → DkOk K' (does m.sooner)) : DkOk K' (m.thing does).1 := by
  have hs := h.soon
  unfold Dk.thing
  split
  · exact h.mono hK
  · split
    · exact (hs.mono hK).nums (by simp) hs.fail rfl rfl rfl rfl rfl
    · split
      · exact (hs.mono hK).nums hs.cut (by simp) rfl rfl rfl rfl rfl
      · have h2 := hd hs
        exact h2.nums h2.cut h2.fail rfl rfl rfl rfl rfl
theorem DkOk.change (h : DkOk K m) (c : Ch) : DkOk (K + 1) (m.change c) :=
  ⟨h.cut, h.fail, Nat.le_succ_of_le h.made, by show m.kept.length + (m.pend ++ [c]).length ≤ _; rw [List.length_append]; have := h.pend; simp only [List.length_singleton]; omega,
    by show (c.on m.names).length ≤ _; have := on_short c m.names; have := h.names; omega, fun i hi => ⟨Nat.le_succ_of_le (h.bytes i hi).1, (h.bytes i hi).2⟩⟩
theorem DkOk.create (h : DkOk K m) (n : Nm) : DkOk (K + 1) (m.create n).1 := by
  unfold Dk.create
  split
  · exact h.mono (Nat.le_succ _)
  · split
    · exact h.mono (Nat.le_succ _)
    · split
      · exact h.mono (Nat.le_succ _)
      · split
        · exact h.mono (Nat.le_succ _)
        · refine h.thing (Nat.le_succ _) fun hs => ?_
          have h1 := hs.change (.made n m.sooner.made)
          refine ⟨h1.cut, h1.fail, Nat.succ_le_succ hs.made, h1.pend, h1.names, fun i hi => ?_⟩
          show (if i = m.sooner.made then (⟨[], 0⟩ : Fl) else m.sooner.files i).bytes.length ≤ _ ∧ (if i = m.sooner.made then (⟨[], 0⟩ : Fl) else m.sooner.files i).kept ≤ (if i = m.sooner.made then (⟨[], 0⟩ : Fl) else m.sooner.files i).bytes.length
          split
          · exact ⟨Nat.zero_le _, Nat.le_refl _⟩
          · have : i < m.sooner.made + 1 := hi
            exact h1.bytes i (show i < m.sooner.made by omega)
theorem DkOk.append (h : DkOk K m) (n : Nm) (b : List UInt8) : DkOk (K + b.length) (m.append n b).1 := by
  unfold Dk.append
  split
  · exact h.mono (Nat.le_add_right _ _)
  · split
    · exact h.mono (Nat.le_add_right _ _)
    · rename_i f hf
      split
      · exact h.mono (Nat.le_add_right _ _)
      · refine h.thing (Nat.le_add_right _ _) fun hs => ?_
        have h1 := hs.mono (Nat.le_add_right K b.length)
        refine ⟨h1.cut, h1.fail, h1.made, h1.pend, h1.names, fun i hi => ?_⟩
        show (if i = f then (⟨(m.sooner.files f).bytes ++ b, (m.sooner.files f).kept⟩ : Fl) else m.sooner.files i).bytes.length ≤ _ ∧ (if i = f then (⟨(m.sooner.files f).bytes ++ b, (m.sooner.files f).kept⟩ : Fl) else m.sooner.files i).kept ≤ (if i = f then (⟨(m.sooner.files f).bytes ++ b, (m.sooner.files f).kept⟩ : Fl) else m.sooner.files i).bytes.length
        by_cases e : i = f
        · subst e
          rw [if_pos rfl]
          have := hs.bytes i hi
          dsimp only
          rw [List.length_append]
          omega
        · rw [if_neg e]
          exact h1.bytes i hi
theorem DkOk.sync (h : DkOk K m) (n : Nm) : DkOk K (m.sync n).1 := by
  unfold Dk.sync
  split
  · exact h
  · split
    · exact h
    · rename_i f hf
      refine h.thing (Nat.le_refl _) fun hs => ⟨hs.cut, hs.fail, hs.made, hs.pend, hs.names, fun i hi => ?_⟩
      show (if i = f then (⟨(m.sooner.files f).bytes, (m.sooner.files f).bytes.length⟩ : Fl) else m.sooner.files i).bytes.length ≤ _ ∧ (if i = f then (⟨(m.sooner.files f).bytes, (m.sooner.files f).bytes.length⟩ : Fl) else m.sooner.files i).kept ≤ (if i = f then (⟨(m.sooner.files f).bytes, (m.sooner.files f).bytes.length⟩ : Fl) else m.sooner.files i).bytes.length
      by_cases e : i = f
      · subst e
        rw [if_pos rfl]
        exact ⟨(hs.bytes i hi).1, Nat.le_refl _⟩
      · rw [if_neg e]
        exact hs.bytes i hi
theorem DkOk.rename (h : DkOk K m) (n to : Nm) : DkOk (K + 1) (m.rename n to).1 := by
  unfold Dk.rename
  split
  · exact h.mono (Nat.le_succ _)
  · split
    · exact h.mono (Nat.le_succ _)
    · split
      · exact h.mono (Nat.le_succ _)
      · refine h.thing (Nat.le_succ _) fun hs => ?_
        exact (hs.nums (m' := { m.sooner with used := wrap64 (m.sooner.used - (m.sooner.size to).1) }) hs.cut hs.fail rfl rfl rfl rfl rfl).change _
theorem DkOk.remove (h : DkOk K m) (n : Nm) : DkOk (K + 1) (m.remove n).1 := by
  unfold Dk.remove
  split
  · exact h.mono (Nat.le_succ _)
  · split
    · exact h.mono (Nat.le_succ _)
    · rename_i f hf
      refine h.thing (Nat.le_succ _) fun hs => ?_
      exact (hs.nums (m' := { m.sooner with used := wrap64 (m.sooner.used - (m.sooner.files f).bytes.length) }) hs.cut hs.fail rfl rfl rfl rfl rfl).change _
theorem DkOk.keep (h : DkOk K m) (k : Nat) : DkOk K (m.keep k) :=
  ⟨h.cut, h.fail, h.made, by
    show (redo (m.pend.take k) m.kept).length + 0 ≤ K
    have := h.pend
    exact redo_short _ _ (by rw [List.length_take]; omega), h.names, h.bytes⟩
theorem DkOk.syncDir (h : DkOk K m) : DkOk K m.syncDir.1 := h.thing (Nat.le_refl _) fun hs => hs.keep _
theorem DkOk.boot (h : DkOk K m) (dirs : Int) (l : List Int) : DkOk K (m.boot dirs l) := by
  have hk := h.keep (min (max dirs 0) (m.pend.length : Int)).toNat
  refine ⟨by simp [Dk.boot], by simp [Dk.boot], h.made, hk.pend, ?_, fun i hi => ?_⟩
  · have := hk.pend
    show (m.keep (min (max dirs 0) (m.pend.length : Int)).toNat).kept.length ≤ K
    omega
  · have h1 := h.bytes i hi
    show (if _ then _ else _ : Fl).bytes.length ≤ K ∧ (if _ then _ else _ : Fl).kept ≤ (if _ then _ else _ : Fl).bytes.length
    split
    · have := left_le l i h1.2
      unfold left at this
      unfold Fl.lose
      dsimp only
      rw [List.length_take]
      omega
    · exact h1
end
end Go.Proofs.Ytmfhpfehphbklaa
