/-
  Right records of which one's bytes begin with another's. No program in sight.
-/
import Derived.Test.YtmfhpfehphbklaaRcBack
namespace Go.Proofs.Ytmfhpfehphbklaa

theorem numB_inj {x y : Int} {k : Nat} (hx : 0 ≤ x) (hx2 : x < 256 ^ k) (hy : 0 ≤ y) (hy2 : y < 256 ^ k) (h : numB x k = numB y k) : x = y := by
  rw [← valB_of x k hx hx2, h, valB_of y k hy hy2]
theorem app_inj {a b c d : List UInt8} (h : a ++ b = c ++ d) (hl : a.length = c.length) : a = c ∧ b = d := List.append_inj h hl
theorem key_inj {k k' a b : List UInt8} (h1 : k.length ≤ 64) (h2 : k'.length ≤ 64) (h : keyP k ++ a = keyP k' ++ b) : k = k' ∧ a = b := by
  unfold keyP at h
  rw [List.cons_append, List.cons_append, List.cons.injEq] at h
  have e : k.length = k'.length := by
    have h3 := byteI_nat (k.length : Int)
    have h4 := byteI_nat (k'.length : Int)
    rw [h.1] at h3
    omega
  exact app_inj h.2 e
/-- If a's bytes are b's, and t behind them. -/
theorem put_pre {a b : Rc} {t : List UInt8} (ha : RightR a) (hb : RightR b) (h : putR a = putR b ++ t) :
    a.kind = b.kind ∧ (a.kind = 2 → t = []) ∧ (a.kind ≠ 4 → a.key = b.key ∧ a.id = b.id ∧ a.no = b.no ∧ a.b = b.b ++ t) ∧ (a.kind = 4 → a.key = b.key ++ t ∧ a.b = [] ∧ b.b = []) := by
  have hka := byte_kind ha
  have hkb := byte_kind hb
  unfold putR at h
  rw [if_pos ha, if_pos hb, List.cons_append, List.cons.injEq] at h
  obtain ⟨h1, h2⟩ := h
  have hk : a.kind = b.kind := by rw [← hka, ← hkb, h1]
  obtain ⟨kd, ks, id, no, size, ls, bs⟩ := a
  obtain ⟨kd', ks', id', no', size', ls', bs'⟩ := b
  dsimp only at hk
  subst hk
  clear h1 hka hkb
  unfold RightR PieceOk RootOk InlineOk TombOk Bare KeyOk IdOk LocsOk at ha hb
  dsimp only at ha hb ⊢
  refine ⟨rfl, ?_⟩
  obtain e | e | e | e : kd = 1 ∨ kd = 2 ∨ kd = 3 ∨ kd = 4 := by omega
  · subst e
    simp [bodyR] at h2
    obtain ⟨g1, g2⟩ := app_inj h2 (by rw [numB_length, numB_length])
    obtain ⟨g3, g4⟩ := app_inj g2 (by rw [numB_length, numB_length])
    have e1 := numB_inj (k := 6) (by omega) (by omega) (by omega) (by omega) g1
    have e2 := numB_inj (k := 2) (by omega) (by omega) (by omega) (by omega) g3
    refine ⟨by omega, fun _ => ⟨?_, e1, e2, g4⟩, by omega⟩
    rw [List.eq_nil_of_length_eq_zero (show ks.length = 0 by omega), List.eq_nil_of_length_eq_zero (show ks'.length = 0 by omega)]
  · subst e
    simp [bodyR] at h2
    obtain ⟨g1, g2⟩ := key_inj (by omega) (by omega) h2
    obtain ⟨g3, g4⟩ := app_inj g2 (by rw [numB_length, numB_length])
    obtain ⟨g5, g6⟩ := app_inj g4 (by rw [numB_length, numB_length])
    obtain ⟨g7, g8⟩ := app_inj g6 (by rw [numB_length, numB_length])
    have e1 := numB_inj (k := 6) (by omega) (by omega) (by omega) (by omega) g3
    have e2 := numB_inj (k := 2) (by omega) (by omega) (by omega) (by omega) g7
    have e3 := congrArg List.length g8
    rw [List.length_append, locsB_length, locsB_length] at e3
    have ht : t = [] := List.eq_nil_of_length_eq_zero (by omega)
    refine ⟨fun _ => ht, fun _ => ⟨g1, e1, by omega, ?_⟩, by omega⟩
    rw [ht, List.eq_nil_of_length_eq_zero (show bs.length = 0 by omega), List.eq_nil_of_length_eq_zero (show bs'.length = 0 by omega)]
    rfl
  · subst e
    simp [bodyR] at h2
    obtain ⟨g1, g2⟩ := key_inj (by omega) (by omega) h2
    exact ⟨by omega, fun _ => ⟨g1, by omega, by omega, g2⟩, by omega⟩
  · subst e
    simp [bodyR] at h2
    exact ⟨by omega, by omega, fun _ => ⟨h2, List.eq_nil_of_length_eq_zero (by omega), List.eq_nil_of_length_eq_zero (by omega)⟩⟩

/-- What is got of bytes that are cut. -/
theorem get_cut {r x : Rc} {n : Nat} (hr : RightR r) (hn : n < (putR r).length) (hx : getR ((putR r).take n) = some x) :
    x.kind = r.kind ∧ r.kind ≠ 2 ∧ (r.kind ≠ 4 → x.key = r.key ∧ x.id = r.id ∧ x.no = r.no ∧ x.b.length ≤ r.b.length ∧ r.b.take x.b.length = x.b) := by
  obtain ⟨h1, h2⟩ := put_get hx
  have h3 : putR r = putR x ++ (putR r).drop n := by rw [h2, List.take_append_drop]
  obtain ⟨g1, g2, g3, _⟩ := put_pre hr h1 h3
  refine ⟨g1.symm, fun e => ?_, fun e => ?_⟩
  · have := congrArg List.length (g2 e)
    rw [List.length_drop] at this
    simp at this
    omega
  · obtain ⟨a1, a2, a3, a4⟩ := g3 e
    exact ⟨a1.symm, a2.symm, a3.symm, by rw [a4]; simp, by rw [a4]; simp⟩
/-- What is got of bytes with one more. -/
theorem get_more {r y : Rc} {m : UInt8} (hr : RightR r) (hy : getR (putR r ++ [m]) = some y) : y.kind = r.kind ∧ r.kind ≠ 2 ∧ y.b.length + y.key.length = r.b.length + r.key.length + 1 := by
  obtain ⟨h1, h2⟩ := put_get hy
  obtain ⟨g1, g2, g3, g4⟩ := put_pre h1 hr h2
  refine ⟨g1, fun e => ?_, ?_⟩
  · have := g2 (g1.trans e)
    cases this
  · by_cases e : y.kind = 4
    · obtain ⟨a1, a2, a3⟩ := g4 e
      rw [a1, a2, a3]
      simp
    · obtain ⟨a1, _, _, a4⟩ := g3 e
      rw [a1, a4]
      simp
      omega
end Go.Proofs.Ytmfhpfehphbklaa
