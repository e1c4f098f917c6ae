/-
  What the answer's get tells of bytes, plainly: of a right record's bytes, that record. No program in sight.
-/
import Derived.Test.YtmfhpfehphbklaaRcBack
namespace Go.Proofs.Ytmfhpfehphbklaa

/-- Places, ten bytes each, as long as there are so many. -/
def locsR : Nat → List UInt8 → List Lc
  | 0, _ => []
  | n + 1, xs => if 10 ≤ xs.length then (valB (xs.take 4), valB ((xs.drop 4).take 4), valB ((xs.drop 8).take 2)) :: locsR n (xs.drop 10) else []
/-- What bytes would tell; k is the first of them, xs are the others. -/
def refP (k : Int) (xs : List UInt8) : Rc :=
  if k = 1 then (if 8 ≤ xs.length then ⟨1, [], valB (xs.take 6), valB ((xs.drop 6).take 2), 0, [], xs.drop 8⟩ else ⟨1, [], 0, 0, 0, [], []⟩)
  else if k = 4 then ⟨4, xs, 0, 0, 0, [], []⟩
  else match xs with
    | [] => ⟨k, [], 0, 0, 0, [], []⟩
    | c :: ys =>
      if ys.length < c.toNat then ⟨k, [], 0, 0, 0, [], []⟩
      else if k = 3 then ⟨k, ys.take c.toNat, 0, 0, 0, [], ys.drop c.toNat⟩
      else if 11 ≤ (ys.drop c.toNat).length then
        ⟨k, ys.take c.toNat, valB ((ys.drop c.toNat).take 6), 0, valB (((ys.drop c.toNat).drop 6).take 3), locsR (ys.drop c.toNat).length ((ys.drop c.toNat).drop 11), []⟩
      else ⟨k, ys.take c.toNat, 0, 0, 0, [], []⟩

theorem take_app (a b : List UInt8) (n : Nat) (h : a.length = n) : (a ++ b).take n = a := by subst h; simp
theorem drop_app (a b : List UInt8) (n : Nat) (h : a.length = n) : (a ++ b).drop n = b := by subst h; simp
theorem locsR_all : ∀ (ls : List Lc) (n : Nat), ls.length ≤ n → (∀ l ∈ ls, LocOk l) → locsR n (locsB ls) = ls
  | [], 0, _, _ => rfl
  | [], n + 1, _, _ => by simp [locsR, locsB]
  | l :: ls, 0, h, _ => by simp at h
  | l :: ls, n + 1, h, hl => by
    obtain ⟨⟨h1, h2⟩, ⟨h3, h4⟩, h5, h6⟩ := hl l (by simp)
    have e0 : locsB (l :: ls) = numB l.1 4 ++ (numB l.2.1 4 ++ (numB l.2.2 2 ++ locsB ls)) := by simp [locsB, locB]
    have e4 : (locsB (l :: ls)).drop 4 = numB l.2.1 4 ++ (numB l.2.2 2 ++ locsB ls) := by rw [e0, drop_app _ _ 4 (numB_length _ _)]
    have e8 : (locsB (l :: ls)).drop 8 = numB l.2.2 2 ++ locsB ls := by
      rw [show 8 = 4 + 4 from rfl, ← List.drop_drop, e4, drop_app _ _ 4 (numB_length _ _)]
    have e10 : (locsB (l :: ls)).drop 10 = locsB ls := by
      rw [show 10 = 8 + 2 from rfl, ← List.drop_drop, e8, drop_app _ _ 2 (numB_length _ _)]
    rw [locsR, if_pos (by rw [locsB_length, List.length_cons]; omega), e4, e8, e10, locsR_all ls n (by simpa using h) (fun x hx => hl x (by simp [hx]))]
    rw [e0, take_app _ _ 4 (numB_length _ _), take_app _ _ 4 (numB_length _ _), take_app _ _ 2 (numB_length _ _), valB_of _ 4 h1 (by omega), valB_of _ 4 h3 (by omega), valB_of _ 2 (by omega) (by omega)]
theorem refP_put {r : Rc} (h : RightR r) : refP r.kind (bodyR r) = r := by
  obtain ⟨kd, ks, id, no, size, ls, bs⟩ := r
  unfold RightR at h
  rcases h with ⟨h1, h⟩ | ⟨h1, h⟩ | ⟨h1, h⟩ | ⟨h1, h⟩
  · dsimp only at h1
    subst h1
    obtain ⟨a1, a2, a3, ⟨a4, a5⟩, ⟨a6, a7⟩, a8, a9⟩ := h
    dsimp only at *
    obtain rfl := len_nil (show ks.length = 0 by omega)
    obtain rfl := len_nil a3
    subst a2
    have e : bodyR ⟨1, [], id, no, 0, [], bs⟩ = numB id 6 ++ (numB no 2 ++ bs) := by simp [bodyR]
    have e6 : (numB id 6 ++ (numB no 2 ++ bs)).drop 6 = numB no 2 ++ bs := drop_app _ _ 6 (numB_length _ _)
    have e8 : (numB id 6 ++ (numB no 2 ++ bs)).drop 8 = bs := by rw [show 8 = 6 + 2 from rfl, ← List.drop_drop, e6, drop_app _ _ 2 (numB_length _ _)]
    unfold refP
    rw [if_pos rfl, e, if_pos (by simp [numB_length]; omega), e6, e8, take_app _ _ 6 (numB_length _ _), take_app _ _ 2 (numB_length _ _), valB_of _ 6 a4 (by omega), valB_of _ 2 a6 (by omega)]
  · dsimp only at h1
    subst h1
    obtain ⟨a1, a2, ⟨a3, a4⟩, ⟨a5, a6⟩, ⟨a7, a8⟩, a9, a10, a11⟩ := h
    dsimp only at *
    obtain rfl := len_nil a2
    subst a1
    have hb : ((byteI (ks.length : Int)).toNat) = ks.length := by have := byteI_nat (ks.length : Int); omega
    have e : bodyR ⟨2, ks, id, 0, size, ls, []⟩ = byteI ks.length :: (ks ++ (numB id 6 ++ (numB size 3 ++ (numB ls.length 2 ++ locsB ls)))) := by simp [bodyR, keyP]
    have ek : (ks ++ (numB id 6 ++ (numB size 3 ++ (numB ls.length 2 ++ locsB ls)))).drop ks.length = numB id 6 ++ (numB size 3 ++ (numB ls.length 2 ++ locsB ls)) := drop_app _ _ _ rfl
    have e6 : (numB id 6 ++ (numB size 3 ++ (numB ls.length 2 ++ locsB ls))).drop 6 = numB size 3 ++ (numB ls.length 2 ++ locsB ls) := drop_app _ _ 6 (numB_length _ _)
    have e9 : (numB id 6 ++ (numB size 3 ++ (numB ls.length 2 ++ locsB ls))).drop 11 = locsB ls := by
      rw [show 11 = 6 + (3 + 2) from rfl, ← List.drop_drop, e6, ← List.drop_drop, drop_app _ _ 3 (numB_length _ _), drop_app _ _ 2 (numB_length _ _)]
    unfold refP
    rw [if_neg (by decide), if_neg (by decide), e]
    dsimp only
    rw [hb, if_neg (by simp), if_neg (by decide), ek, if_pos (by simp [numB_length]; omega), e6, e9, take_app _ _ _ rfl, take_app _ _ 6 (numB_length _ _), take_app _ _ 3 (numB_length _ _), valB_of _ 6 a5 (by omega), valB_of _ 3 (by omega) (by omega), locsR_all ls _ (by simp [numB_length, locsB_length]; omega) a10]
  · dsimp only at h1
    subst h1
    obtain ⟨⟨a1, a2, a3, a4⟩, ⟨a5, a6⟩, a7⟩ := h
    dsimp only at *
    obtain rfl := len_nil a4
    subst a1 a2 a3
    have hb : ((byteI (ks.length : Int)).toNat) = ks.length := by have := byteI_nat (ks.length : Int); omega
    have e : bodyR ⟨3, ks, 0, 0, 0, [], bs⟩ = byteI ks.length :: (ks ++ bs) := by simp [bodyR, keyP]
    unfold refP
    rw [if_neg (by decide), if_neg (by decide), e]
    dsimp only
    rw [hb, if_neg (by simp), if_pos rfl, take_app _ _ _ rfl, drop_app _ _ _ rfl]
  · dsimp only at h1
    subst h1
    obtain ⟨⟨a1, a2, a3, a4⟩, ⟨a5, a6⟩, a7⟩ := h
    dsimp only at *
    obtain rfl := len_nil a4
    obtain rfl := len_nil a7
    subst a1 a2 a3
    simp [refP, bodyR]
/-- The answer's own look-up is the same. -/
theorem refP_get (c : UInt8) (xs : List UInt8) : getR (c :: xs) = if putR (refP c.toNat xs) = c :: xs then some (refP c.toNat xs) else Option.none := by
  by_cases h : putR (refP c.toNat xs) = c :: xs
  · rw [if_pos h]
    have hr : RightR (refP c.toNat xs) := by
      apply Classical.byContradiction
      intro hn
      rw [put_ill hn] at h
      cases h
    have := get_put hr
    rwa [h] at this
  · rw [if_neg h]
    cases hg : getR (c :: xs) with
    | none => rfl
    | some r =>
      exfalso
      obtain ⟨h1, h2⟩ := put_get hg
      obtain ⟨body, hb⟩ := put_head h1
      have hb2 : putR r = byteI r.kind :: bodyR r := by unfold putR; rw [if_pos h1]
      rw [hb2, List.cons.injEq] at h2
      have hk := byte_kind h1
      rw [h2.1] at hk
      apply h
      rw [hk, ← h2.2, refP_put h1, hb2, h2.1, h2.2]
end Go.Proofs.Ytmfhpfehphbklaa
