/-
  Records there and back, told plainly: a right record is got of its bytes; what is got of any bytes is right, and has them; how long bytes are; what is cut, or longer. No program in sight.
-/
import Derived.Test.YtmfhpfehphbklaaRcPlain
namespace Go.Proofs.Ytmfhpfehphbklaa

theorem takeS_all (a b : List UInt8) (n : Nat) (h : a.length = n) : takeS (a ++ b, false) (n : Int) = (a, (b, false)) := by
  subst h
  unfold takeS
  rw [if_neg (by rintro (h | h); cases h; simp at h; omega)]
  simp
theorem numS_all (x : Int) (k : Nat) (b : List UInt8) (h0 : 0 ≤ x) (h : x < 256 ^ k) : numS (numB x k ++ b, false) (k : Int) = (x, (b, false)) := by
  unfold numS
  rw [takeS_all _ _ k (numB_length x k)]
  dsimp only
  rw [valB_of x k h0 h]
theorem keyS_all (k b : List UInt8) (h : k.length ≤ 64) : keyS (keyP k ++ b, false) = (k, (b, false)) := by
  have h1 : numS (keyP k ++ b, false) 1 = ((k.length : Int), (k ++ b, false)) := by
    have := numS_all (k.length : Int) 1 (k ++ b) (by omega) (by omega)
    have e : numB (k.length : Int) 1 ++ (k ++ b) = keyP k ++ b := by simp [numB, keyP]
    rw [e] at this
    exact this
  unfold keyS
  rw [h1]
  exact takeS_all k b k.length rfl
theorem restS_all (b : List UInt8) : restS (b, false) = (b, ([], false)) := by
  have := takeS_all b [] b.length rfl
  rw [List.append_nil] at this
  exact this
theorem locS_all (l : Lc) (b : List UInt8) (h : LocOk l) : locS (locB l ++ b, false) = (l, (b, false)) := by
  obtain ⟨⟨h1, h2⟩, ⟨h3, h4⟩, h5, h6⟩ := h
  have e1 := numS_all l.1 4 (numB l.2.1 4 ++ (numB l.2.2 2 ++ b)) h1 (by omega)
  have e2 := numS_all l.2.1 4 (numB l.2.2 2 ++ b) h3 (by omega)
  have e3 := numS_all l.2.2 2 b (by omega) (by omega)
  have e : locB l ++ b = numB l.1 4 ++ (numB l.2.1 4 ++ (numB l.2.2 2 ++ b)) := by simp [locB]
  unfold locS
  rw [e]
  rw [show ((4 : Nat) : Int) = 4 from rfl] at e1 e2
  rw [show ((2 : Nat) : Int) = 2 from rfl] at e3
  rw [e1]
  dsimp only
  rw [e2]
  dsimp only
  rw [e3]
theorem locsL_all : ∀ (ls : List Lc) (b : List UInt8) (acc : List Lc), (∀ l ∈ ls, LocOk l) → locsL ls.length (locsB ls ++ b, false) acc = (acc ++ ls, (b, false))
  | [], b, acc, _ => by simp [locsL, locsB]
  | l :: ls, b, acc, h => by
    rw [List.length_cons, locsL, locsB, List.append_assoc, locS_all l _ (h l (by simp))]
    dsimp only
    rw [if_neg (by simp), locsL_all ls b _ (fun x hx => h x (by simp [hx]))]
    simp
theorem locsS_all (ls : List Lc) (b : List UInt8) (hn : ls.length ≤ 512) (h : ∀ l ∈ ls, LocOk l) : locsS (numB ls.length 2 ++ (locsB ls ++ b), false) = (ls, (b, false)) := by
  have e := numS_all (ls.length : Int) 2 (locsB ls ++ b) (by omega) (by omega)
  rw [show ((2 : Nat) : Int) = 2 from rfl] at e
  unfold locsS
  rw [e]
  dsimp only
  rw [Int.toNat_natCast, locsL_all ls b [] h, List.nil_append]

theorem right_kind {r : Rc} (h : RightR r) : r.kind = 1 ∨ r.kind = 2 ∨ r.kind = 3 ∨ r.kind = 4 := by
  unfold RightR at h
  omega
theorem len_nil {α : Type} {l : List α} (h : l.length = 0) : l = [] := List.eq_nil_of_length_eq_zero h

/-- What its kind's way gets of a right record's bytes. -/
theorem part_back {r : Rc} (h : RightR r) : partS r.kind (bodyR r, false) = ({ r with kind := 0 }, ([], false)) := by
  obtain ⟨kd, ks, id, no, size, ls, bs⟩ := r
  unfold RightR at h
  rcases h with ⟨h1, h⟩ | ⟨h1, h⟩ | ⟨h1, h⟩ | ⟨h1, h⟩
  · dsimp only at h1
    subst h1
    obtain ⟨a1, a2, a3, ⟨a4, a5⟩, ⟨a6, a7⟩, a8, a9⟩ := h
    dsimp only at *
    have e1 := numS_all id 6 (numB no 2 ++ bs) a4 (by omega)
    have e2 := numS_all no 2 bs a6 (by omega)
    rw [show ((6 : Nat) : Int) = 6 from rfl] at e1
    rw [show ((2 : Nat) : Int) = 2 from rfl] at e2
    obtain rfl := len_nil (show ks.length = 0 by omega)
    obtain rfl := len_nil a3
    subst a2
    simp [partS, bodyR, pieceS, e1, e2, restS_all]
  · dsimp only at h1
    subst h1
    obtain ⟨a1, a2, ⟨a3, a4⟩, ⟨a5, a6⟩, ⟨a7, a8⟩, a9, a10, a11⟩ := h
    dsimp only at *
    obtain rfl := len_nil a2
    subst a1
    have e1 := numS_all id 6 (numB size 3 ++ (numB ls.length 2 ++ locsB ls)) a5 (by omega)
    have e2 := numS_all size 3 (numB ls.length 2 ++ locsB ls) (by omega) (by omega)
    have e3 := locsS_all ls [] a9 a10
    rw [show ((6 : Nat) : Int) = 6 from rfl] at e1
    rw [show ((3 : Nat) : Int) = 3 from rfl] at e2
    rw [List.append_nil] at e3
    simp [partS, bodyR, rootS, keyS_all _ _ a4, e1, e2, e3]
  · dsimp only at h1
    subst h1
    obtain ⟨⟨a1, a2, a3, a4⟩, ⟨a5, a6⟩, a7⟩ := h
    dsimp only at *
    obtain rfl := len_nil a4
    subst a1 a2 a3
    simp [partS, bodyR, inlineS, keyS_all _ _ a6, restS_all]
  · dsimp only at h1
    subst h1
    obtain ⟨⟨a1, a2, a3, a4⟩, ⟨a5, a6⟩, a7⟩ := h
    dsimp only at *
    obtain rfl := len_nil a4
    obtain rfl := len_nil a7
    subst a1 a2 a3
    simp [partS, bodyR, tombS, restS_all]
theorem byte_kind {r : Rc} (h : RightR r) : ((byteI r.kind).toNat : Int) = r.kind := by
  have := right_kind h
  rw [byteI_nat]
  omega
theorem getR_cons' (c : UInt8) (bs : List UInt8) : getR (c :: bs) = if 1 ≤ c.toNat ∧ c.toNat ≤ 4 then (if ((partS c.toNat (bs, false)).2.2 = false ∧ (partS c.toNat (bs, false)).2.1 = []) ∧ RightR { (partS c.toNat (bs, false)).1 with kind := c.toNat } then some { (partS c.toNat (bs, false)).1 with kind := c.toNat } else Option.none) else Option.none := rfl
/-- A right record is got of its bytes. -/
theorem get_put {r : Rc} (h : RightR r) : getR (putR r) = some r := by
  have hk := byte_kind h
  have hr := right_kind h
  unfold putR
  rw [if_pos h, getR_cons', if_pos (by omega), hk, part_back h, if_pos ⟨⟨rfl, rfl⟩, h⟩]
end Go.Proofs.Ytmfhpfehphbklaa
