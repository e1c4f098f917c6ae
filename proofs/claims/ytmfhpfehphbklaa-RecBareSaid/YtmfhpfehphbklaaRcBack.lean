/-
  What is got of any bytes is right, and has them; how long bytes are; what is cut, or longer. No program in sight.
-/
import Derived.Test.YtmfhpfehphbklaaRcThere
namespace Go.Proofs.Ytmfhpfehphbklaa

theorem takeS_inv {s : Src} {n : Int} (hn : 0 ≤ n) (h : (takeS s n).2.2 = false) : s.2 = false ∧ s.1 = (takeS s n).1 ++ (takeS s n).2.1 ∧ ((takeS s n).1.length : Int) = n := by
  unfold takeS at *
  by_cases hc : s.2 = true ∨ (s.1.length : Int) < n
  · rw [if_pos hc] at h
    cases h
  · rw [if_neg hc]
    have h1 : ¬ s.2 = true := fun e => hc (.inl e)
    have h2 : ¬ (s.1.length : Int) < n := fun e => hc (.inr e)
    refine ⟨by simpa using h1, by simp, ?_⟩
    simp
    omega
theorem numS_inv {s : Src} {k : Nat} (h : (numS s (k : Int)).2.2 = false) : s.2 = false ∧ s.1 = numB (numS s (k : Int)).1 k ++ (numS s (k : Int)).2.1 ∧ 0 ≤ (numS s (k : Int)).1 := by
  obtain ⟨h1, h2, h3⟩ := takeS_inv (by omega) h
  refine ⟨h1, ?_, (valB_lt _).1⟩
  have hk : (takeS s (k : Int)).1.length = k := by omega
  have e := numB_valB' (takeS s (k : Int)).1
  rw [hk] at e
  show s.1 = numB (valB (takeS s (k : Int)).1) k ++ (takeS s (k : Int)).2.1
  rw [e]
  exact h2
theorem keyS_inv {s : Src} (h : (keyS s).2.2 = false) : s.2 = false ∧ s.1 = keyP (keyS s).1 ++ (keyS s).2.1 := by
  have h0 : 0 ≤ (numS s 1).1 := (valB_lt _).1
  obtain ⟨h1, h2, h3⟩ := takeS_inv h0 h
  obtain ⟨g1, g2, g3⟩ := numS_inv (s := s) (k := 1) h1
  refine ⟨g1, ?_⟩
  rw [show ((1 : Nat) : Int) = 1 from rfl] at g2
  rw [h2] at g2
  have e : numB (numS s 1).1 1 = [byteI ((keyS s).1.length : Int)] := by
    have : ((keyS s).1.length : Int) = (numS s 1).1 := h3
    rw [this]
    simp [numB]
  rw [e] at g2
  exact g2
theorem restS_inv {s : Src} (h : (restS s).2.2 = false) : s.2 = false ∧ s.1 = (restS s).1 := by
  obtain ⟨h1, h2, h3⟩ := takeS_inv (by omega) h
  refine ⟨h1, ?_⟩
  have h4 : (restS s).2.1 = [] := by
    have := congrArg List.length h2
    rw [List.length_append] at this
    have h5 : (restS s).1.length = s.1.length := by have : ((restS s).1.length : Int) = s.1.length := h3; omega
    exact List.eq_nil_of_length_eq_zero (by
      show (takeS s s.1.length).2.1.length = 0
      have h6 : (takeS s s.1.length).1.length = s.1.length := h5
      omega)
  have : s.1 = (restS s).1 ++ (restS s).2.1 := h2
  rw [h4, List.append_nil] at this
  exact this
theorem locS_inv {s : Src} (h : (locS s).2.2 = false) : s.2 = false ∧ s.1 = locB (locS s).1 ++ (locS s).2.1 := by
  have h1 : (numS (numS (numS s 4).2 4).2 2).2.2 = false := h
  obtain ⟨a1, a2, _⟩ := numS_inv (s := (numS (numS s 4).2 4).2) (k := 2) h1
  obtain ⟨b1, b2, _⟩ := numS_inv (s := (numS s 4).2) (k := 4) a1
  obtain ⟨c1, c2, _⟩ := numS_inv (s := s) (k := 4) b1
  refine ⟨c1, ?_⟩
  rw [show ((4 : Nat) : Int) = 4 from rfl] at b2 c2
  rw [show ((2 : Nat) : Int) = 2 from rfl] at a2
  rw [b2, a2] at c2
  rw [c2]
  simp [locB, locS]
theorem locsL_inv : ∀ (k : Nat) (s : Src) (acc : List Lc), (locsL k s acc).2.2 = false → ∃ ls, (locsL k s acc).1 = acc ++ ls ∧ ls.length = k ∧ s.2 = false ∧ s.1 = locsB ls ++ (locsL k s acc).2.1
  | 0, s, acc, h => ⟨[], by simp [locsL], rfl, h, by simp [locsL, locsB]⟩
  | k + 1, s, acc, h => by
    rw [locsL] at h ⊢
    by_cases hc : (locS s).2.2 = true
    · rw [if_pos hc] at h
      rw [hc] at h
      cases h
    · rw [if_neg hc] at h ⊢
      obtain ⟨ls, h1, h2, h3, h4⟩ := locsL_inv k _ _ h
      obtain ⟨g1, g2⟩ := locS_inv h3
      refine ⟨(locS s).1 :: ls, by rw [h1]; simp, by simp [h2], g1, ?_⟩
      rw [g2, h4]
      simp [locsB]
theorem locsS_inv {s : Src} (h : (locsS s).2.2 = false) : s.2 = false ∧ s.1 = numB ((locsS s).1.length : Int) 2 ++ (locsB (locsS s).1 ++ (locsS s).2.1) := by
  have h0 : 0 ≤ (numS s 2).1 := (valB_lt _).1
  obtain ⟨ls, h1, h2, h3, h4⟩ := locsL_inv _ _ _ h
  obtain ⟨g1, g2, _⟩ := numS_inv (s := s) (k := 2) h3
  rw [List.nil_append] at h1
  have h1' : (locsS s).1 = ls := h1
  refine ⟨g1, ?_⟩
  rw [show ((2 : Nat) : Int) = 2 from rfl] at g2
  rw [h4] at g2
  rw [h1', h2, show ((numS s 2).1.toNat : Int) = (numS s 2).1 by omega]
  exact g2
/-- Bytes of which a way gets something, and nothing is left over, are just that record's. -/
theorem part_inv {k : Int} {bs : List UInt8} (hk : k = 1 ∨ k = 2 ∨ k = 3 ∨ k = 4) (h : (partS k (bs, false)).2.2 = false ∧ (partS k (bs, false)).2.1 = []) : bs = bodyR { (partS k (bs, false)).1 with kind := k } := by
  obtain ⟨h1, h2⟩ := h
  rcases hk with rfl | rfl | rfl | rfl
  · have h1 : (pieceS (bs, false)).2.2 = false := h1
    obtain ⟨a1, a2⟩ := restS_inv (s := (numS (numS (bs, false) 6).2 2).2) h1
    obtain ⟨b1, b2, _⟩ := numS_inv (s := (numS (bs, false) 6).2) (k := 2) a1
    obtain ⟨c1, c2, _⟩ := numS_inv (s := (bs, false)) (k := 6) b1
    rw [show ((2 : Nat) : Int) = 2 from rfl] at b2
    rw [show ((6 : Nat) : Int) = 6 from rfl] at c2
    rw [b2, a2] at c2
    exact c2
  · have h1 : (rootS (bs, false)).2.2 = false := h1
    have h2 : (rootS (bs, false)).2.1 = [] := h2
    obtain ⟨a1, a2⟩ := locsS_inv (s := (numS (numS (keyS (bs, false)).2 6).2 3).2) h1
    obtain ⟨b1, b2, _⟩ := numS_inv (s := (numS (keyS (bs, false)).2 6).2) (k := 3) a1
    obtain ⟨c1, c2, _⟩ := numS_inv (s := (keyS (bs, false)).2) (k := 6) b1
    obtain ⟨d1, d2⟩ := keyS_inv (s := (bs, false)) c1
    have h3 : (locsS (numS (numS (keyS (bs, false)).2 6).2 3).2).2.1 = [] := h2
    rw [h3, List.append_nil] at a2
    rw [show ((3 : Nat) : Int) = 3 from rfl] at b2
    rw [show ((6 : Nat) : Int) = 6 from rfl] at c2
    rw [c2, b2, a2] at d2
    exact d2
  · have h1 : (inlineS (bs, false)).2.2 = false := h1
    obtain ⟨a1, a2⟩ := restS_inv (s := (keyS (bs, false)).2) h1
    obtain ⟨d1, d2⟩ := keyS_inv (s := (bs, false)) a1
    rw [a2] at d2
    exact d2
  · have h1 : (tombS (bs, false)).2.2 = false := h1
    obtain ⟨a1, a2⟩ := restS_inv (s := (bs, false)) h1
    exact a2
theorem byteI_self (c : UInt8) : byteI (c.toNat : Int) = c := by
  apply UInt8.toNat_inj.1
  have := byteI_nat (c.toNat : Int)
  have := c.toNat_lt
  omega
theorem put_get {bs : List UInt8} {r : Rc} (h : getR bs = some r) : RightR r ∧ putR r = bs := by
  match bs, h with
  | [], h => cases h
  | c :: bs, h =>
    rw [getR_cons'] at h
    by_cases hk : 1 ≤ c.toNat ∧ c.toNat ≤ 4
    · rw [if_pos hk] at h
      by_cases hc : ((partS c.toNat (bs, false)).2.2 = false ∧ (partS c.toNat (bs, false)).2.1 = []) ∧ RightR { (partS c.toNat (bs, false)).1 with kind := c.toNat }
      · rw [if_pos hc] at h
        injection h with h
        subst h
        refine ⟨hc.2, ?_⟩
        have hb := part_inv (k := (c.toNat : Int)) (by omega) hc.1
        unfold putR
        rw [if_pos hc.2, ← hb]
        congr 1
        exact byteI_self c
      · rw [if_neg hc] at h
        cases h
    · rw [if_neg hk] at h
      cases h

/-! How long bytes are. -/
theorem put_len {r : Rc} (h : RightR r) : ((putR r).length : Int) = (if r.kind = 2 then 13 + (r.key.length : Int) + 10 * (r.locs.length : Int) else if r.kind = 3 then 2 + (r.key.length : Int) + (r.b.length : Int) else if r.kind = 4 then 1 + (r.key.length : Int) else 9 + (r.b.length : Int)) := by
  have hr := right_kind h
  unfold putR bodyR
  rw [if_pos h]
  rcases hr with e | e | e | e <;> simp [e, numB_length, keyP, locsB_length] <;> omega
theorem put_body {r : Rc} (h : RightR r) : 1 ≤ (putR r).length ∧ (putR r).length ≤ 8192 := by
  have hl := put_len h
  unfold RightR at h
  rcases h with ⟨e, h⟩ | ⟨e, h⟩ | ⟨e, h⟩ | ⟨e, h⟩
  · rw [e] at hl
    simp at hl
    have := h.2.2.2.2.2
    omega
  · rw [e] at hl
    simp at hl
    have h1 := h.2.2.1.2
    have h2 := h.2.2.2.2.2.1
    omega
  · rw [e] at hl
    simp at hl
    have h1 := h.2.1.2
    have h2 := h.2.2
    omega
  · rw [e] at hl
    simp at hl
    have h1 := h.2.1.2
    omega
theorem put_ill {r : Rc} (h : ¬ RightR r) : putR r = [] := by unfold putR; rw [if_neg h]
theorem put_empty {r : Rc} : (putR r).length = 0 ↔ ¬ RightR r := by
  by_cases h : RightR r
  · have := put_body h
    constructor
    · intro h'; omega
    · intro h'; exact absurd h h'
  · rw [put_ill h]
    simp [h]
theorem put_small (r : Rc) : (putR r).length ≤ 8192 := by
  by_cases h : RightR r
  · exact (put_body h).2
  · rw [put_ill h]; simp
theorem put_head {r : Rc} (h : RightR r) : ∃ bs, putR r = byteI r.kind :: bs := ⟨bodyR r, by unfold putR; rw [if_pos h]⟩
/-- Unlike right records have unlike bytes. -/
theorem put_same {a b : Rc} (ha : RightR a) (hb : RightR b) : putR a = putR b ↔ a = b := by
  constructor
  · intro e
    have h1 := get_put ha
    rw [e, get_put hb] at h1
    injection h1 with h1
    exact h1.symm
  · intro e; rw [e]
end Go.Proofs.Ytmfhpfehphbklaa
