import Derived.Test.YtlldcogkcjnejaaGreatMG24
import Derived.Test.YtlldcogkcjnejaaGreatMG17
import Derived.Test.YtlldcogkcjnejaaGreatMG01
import Derived.Shelf.Abstract
import Derived.Shelf.RegionOpen
import Derived.OwnWalkIn
import Derived.TacticsInMore
import Derived.LoopNIn
import Derived.LoopIn
import Derived.IntWalk
namespace Go.Proofs.YtlldcogkcjnejaaGreat
open Go.RowKit
theorem Zag (A : Option Addr) (n c : Nat) (bs : List UInt8) (w : World) (hs : Sl w A n c bs) (hn : n ≤ 140737488351232) :
 Calls Tryz.prog 50 #[.slice A n c] w fun e w' => ∃ A' m c', e = .returned (.tuple #[.slice A' m c', .int .i64 ((Zg bs).2.1 : Nat), .int .i64 ((Zg bs).2.2 : Nat)]) ∧ w'.ownsRow w.heap.size 5 1 (.slice A' m c') m ((Zg bs).1.map byteV) ∧ Below w.heap.size w w' := by
 have hl := hs.len
 by_cases h4 : n < 4
 ·refine (Zi2 A n c w h4).mono ?_
  rintro e w' ⟨rfl, hb⟩
  have hf : Zg bs = ([], 0, 21) := by unfold Zg; rw [if_pos (by omega)]
  rw [hf]
  exact ⟨none, 0, 0, rfl, World.ownsRow_nil _ _ _ _, hb⟩
 ·match bs, hl with
  | [], hl => simp at hl; omega
  | [_], hl => simp at hl; omega
  | [_, _], hl => simp at hl; omega
  | [_, _, _], hl => simp at hl; omega
  | b0 :: b1 :: b2 :: b3 :: bs, hl =>
    obtain ⟨ad, rfl⟩ : ∃ ad, A = some ad := by
     obtain ⟨ad, h, _⟩ := hs.bytes.spot (k := 0) (by omega)
     exact ⟨ad, h⟩
    have ht : toldN (b0 :: b1 :: b2 :: b3 :: bs) = 256 * b0.toNat + b1.toNat := rfl
    generalize hT : 256 * b0.toNat + b1.toNat = T at *
    have hk : (b0 :: b1 :: b2 :: b3 :: bs).take 4 = [b0, b1, b2, b3] := rfl
    have h4' : ¬ (b0 :: b1 :: b2 :: b3 :: bs).length < 4 := by omega
    by_cases hr : 1 ≤ T ∧ T ≤ 8192
    ·by_cases hm : [b0, b1, b2, b3] = headB T
     ·have hcond : ¬ (¬ (1 ≤ T ∧ T ≤ 8192) ∨ [b0, b1, b2, b3] ≠ headB T) := fun h => h.elim (fun h => h hr) (fun h => h hm)
      by_cases h8 : n < T + 8
      ·refine (Znw ad n c b0 b1 b2 b3 bs w hs T hT hr.1 hr.2 hm h8).mono ?_
       rintro e w' ⟨rfl, hb⟩
       have hf : Zg (b0 :: b1 :: b2 :: b3 :: bs) = ([], 0, 21) := by unfold Zg; rw [if_neg h4', ht, hk, if_neg hcond, if_pos (by omega)]
       rw [hf]
       exact ⟨none, 0, 0, rfl, World.ownsRow_nil _ _ _ _, hb⟩
      ·have h8' : ¬ (b0 :: b1 :: b2 :: b3 :: bs).length < T + 8 := by omega
       by_cases hx : ((b0 :: b1 :: b2 :: b3 :: bs).drop (T + 4)).take 4 = tailB ((b0 :: b1 :: b2 :: b3 :: bs).take (T + 4))
       ·refine (Zp3 ad n c b0 b1 b2 b3 bs w hs T hT hr.1 hr.2 hm (by omega) hn hx).mono ?_
        rintro e w' ⟨A', c', rfl, hs', hb⟩
        have hf : Zg (b0 :: b1 :: b2 :: b3 :: bs) = (((b0 :: b1 :: b2 :: b3 :: bs).drop 4).take T, T + 8, 0) := by
         unfold Zg; rw [if_neg h4', ht, hk, if_neg hcond, if_neg h8', if_neg (fun h => h hx)]
        rw [hf]
        exact ⟨A', T, c', rfl, hs', hb⟩
       ·refine (Znx ad n c b0 b1 b2 b3 bs w hs T hT hr.1 hr.2 hm (by omega) hx).mono ?_
        rintro e w' ⟨rfl, hb⟩
        have hf : Zg (b0 :: b1 :: b2 :: b3 :: bs) = ([], T + 8, 22) := by unfold Zg; rw [if_neg h4', ht, hk, if_neg hcond, if_neg h8', if_pos hx]
        rw [hf]
        exact ⟨none, 0, 0, rfl, World.ownsRow_nil _ _ _ _, hb⟩
     ·refine (Zhz ad n c b0 b1 b2 b3 bs w hs T hT hr.1 hr.2 hm).mono ?_
      rintro e w' ⟨rfl, hb⟩
      have hf : Zg (b0 :: b1 :: b2 :: b3 :: bs) = ([], 0, 22) := by unfold Zg; rw [if_neg h4', ht, hk, if_pos (.inr hm)]
      rw [hf]
      exact ⟨none, 0, 0, rfl, World.ownsRow_nil _ _ _ _, hb⟩
    ·refine (Zk7 ad n c b0 b1 b2 b3 bs w hs T hT hr).mono ?_
     rintro e w' ⟨rfl, hb⟩
     have hf : Zg (b0 :: b1 :: b2 :: b3 :: bs) = ([], 0, 22) := by unfold Zg; rw [if_neg h4', ht, if_pos (.inl hr)]
     rw [hf]
     exact ⟨none, 0, 0, rfl, World.ownsRow_nil _ _ _ _, hb⟩
end Go.Proofs.YtlldcogkcjnejaaGreat
namespace Go.Proofs.YtlldcogkcjnejaaGreat
theorem Zn1 {c y : List UInt8} {k : Nat} (h : Zg c = (y, k, 0)) : 9 ≤ k ∧ k ≤ c.length ∧ putB y = c.take k := by
 unfold Zg at h
 by_cases h4 : c.length < 4
 ·rw [if_pos h4] at h; simp at h
 rw [if_neg h4] at h
 by_cases hm : ¬ (1 ≤ toldN c ∧ toldN c ≤ 8192) ∨ c.take 4 ≠ headB (toldN c)
 ·rw [if_pos hm] at h; simp at h
 rw [if_neg hm] at h
 by_cases h8 : c.length < toldN c + 8
 ·rw [if_pos h8] at h; simp at h
 rw [if_neg h8] at h
 by_cases hx : (c.drop (toldN c + 4)).take 4 ≠ tailB (c.take (toldN c + 4))
 ·rw [if_pos hx] at h; simp at h
 rw [if_neg hx] at h
 simp only [Prod.mk.injEq, and_true] at h
 obtain ⟨hy, hk⟩ := h
 have hr : 1 ≤ toldN c ∧ toldN c ≤ 8192 := Decidable.not_not.1 fun h => hm (.inl h)
 have hh : c.take 4 = headB (toldN c) := Decidable.not_not.1 fun h => hm (.inr h)
 have ht : (c.drop (toldN c + 4)).take 4 = tailB (c.take (toldN c + 4)) := Decidable.not_not.1 hx
 generalize toldN c = T at *
 have hyl : y.length = T := by rw [← hy, List.length_take, List.length_drop]; omega
 refine ⟨by omega, by omega, ?_⟩
 unfold putB
 rw [hyl, if_pos hr]
 unfold Zbo
 have h1 : c.take (T + 4) = headB T ++ y := by
  rw [← hy, ← hh, ← List.take_add, Nat.add_comm]
 rw [hyl, ← h1, ← ht, ← hk, ← List.take_add]
theorem Zn2 {c y : List UInt8} {k e : Nat} (h : Zg c = (y, k, e)) (he : e ≠ 0) : y = [] ∧ (k = 0 ∨ e = 22 ∧ 9 ≤ k ∧ k ≤ c.length) := by
 unfold Zg at h
 by_cases h4 : c.length < 4
 ·rw [if_pos h4] at h; simp at h; obtain ⟨rfl, rfl, rfl⟩ := h; simp
 rw [if_neg h4] at h
 by_cases hm : ¬ (1 ≤ toldN c ∧ toldN c ≤ 8192) ∨ c.take 4 ≠ headB (toldN c)
 ·rw [if_pos hm] at h; simp at h; obtain ⟨rfl, rfl, rfl⟩ := h; simp
 rw [if_neg hm] at h
 by_cases h8 : c.length < toldN c + 8
 ·rw [if_pos h8] at h; simp at h; obtain ⟨rfl, rfl, rfl⟩ := h; simp
 rw [if_neg h8] at h
 have hr : 1 ≤ toldN c ∧ toldN c ≤ 8192 := Decidable.not_not.1 fun h => hm (.inl h)
 by_cases hx : (c.drop (toldN c + 4)).take 4 ≠ tailB (c.take (toldN c + 4))
 ·rw [if_pos hx] at h; simp at h; obtain ⟨rfl, rfl, rfl⟩ := h; refine ⟨rfl, .inr ⟨rfl, by omega, by omega⟩⟩
 ·rw [if_neg hx] at h; simp at h; exact absurd h.2.2.symm he
end Go.Proofs.YtlldcogkcjnejaaGreat
namespace Go.Proofs.YtlldcogkcjnejaaGreat
theorem Yr {bs y : List UInt8} {k e : Nat} (h : Zg bs = (y, k, e)) : (k = 0 ∨ 9 ≤ k ∧ k ≤ bs.length) ∧ (e = 0 → 9 ≤ k) ∧ (e ≠ 0 → y = []) := by
 by_cases he : e = 0
 ·subst he
  have := Zn1 h
  exact ⟨.inr ⟨this.1, this.2.1⟩, fun _ => this.1, fun h => absurd rfl h⟩
 ·have := Zn2 h he
  refine ⟨?_, fun h => absurd h he, fun _ => this.1⟩
  rcases this.2 with h | h
  ·exact .inl h
  ·exact .inr h.2
theorem Zny (bs : List UInt8) : (Zg bs).2.2 = 0 ∨ (Zg bs).2.2 = 21 ∨ (Zg bs).2.2 = 22 := by
 unfold Zg
 split
 ·exact .inr (.inl rfl)
 split
 ·exact .inr (.inr rfl)
 split
 ·exact .inr (.inl rfl)
 split
 ·exact .inr (.inr rfl)
 ·exact .inl rfl
abbrev Ev := Nat × Nat × List UInt8 × Nat
def evF : Nat → List UInt8 → Nat → List Ev
 | 0, _, _ => []
 | f + 1, bs, at_ => if bs = [] then [] else (at_, (Zg bs).2.1, (Zg bs).1, (Zg bs).2.2) :: if (Zg bs).2.1 = 0 then [] else evF f (bs.drop (Zg bs).2.1) (at_ + (Zg bs).2.1)
theorem evF_enough : ∀ (N f : Nat) (bs : List UInt8) (a : Nat), bs.length ≤ N → bs.length ≤ f → evF f bs a = evF bs.length bs a
 | 0, f, bs, a, hN, _ => by
   have hb : bs = [] := List.eq_nil_of_length_eq_zero (by omega)
   subst hb
   cases f <;> simp [evF]
 | N + 1, f, bs, a, hN, hf => by
   by_cases hb : bs = []
   ·subst hb
    cases f <;> simp [evF]
   ·have hl : 0 < bs.length := List.length_pos_iff.2 hb
    obtain ⟨m, hm⟩ : ∃ m, bs.length = m + 1 := ⟨bs.length - 1, by omega⟩
    obtain ⟨g, rfl⟩ : ∃ g, f = g + 1 := ⟨f - 1, by omega⟩
    rw [hm]
    unfold evF
    rw [if_neg hb, if_neg hb]
    obtain ⟨hk, _⟩ := Yr (bs := bs) (y := (Zg bs).1) (k := (Zg bs).2.1) (e := (Zg bs).2.2) rfl
    generalize (Zg bs).2.1 = k at *
    by_cases hk0 : k = 0
    ·rw [if_pos hk0, if_pos hk0]
    ·rw [if_neg hk0, if_neg hk0, evF_enough N g _ _ (by rw [List.length_drop]; omega) (by rw [List.length_drop]; omega), evF_enough N m _ _ (by rw [List.length_drop]; omega) (by rw [List.length_drop]; omega)]
def evB (bs : List UInt8) (a : Nat) : List Ev := evF bs.length bs a
theorem Zrr (a : Nat) : evB [] a = [] := rfl
theorem Zba {bs y : List UInt8} {k e : Nat} (hb : bs ≠ []) (h : Zg bs = (y, k, e)) (a : Nat) : evB bs a = (a, k, y, e) :: if k = 0 then [] else evB (bs.drop k) (a + k) := by
 have hl : 0 < bs.length := List.length_pos_iff.2 hb
 obtain ⟨m, hm⟩ : ∃ m, bs.length = m + 1 := ⟨bs.length - 1, by omega⟩
 obtain ⟨hk, _⟩ := Yr h
 unfold evB
 rw [hm]
 conv => lhs; unfold evF
 rw [if_neg hb, h]
 dsimp only
 by_cases hk0 : k = 0
 ·rw [if_pos hk0, if_pos hk0]
 ·rw [if_neg hk0, if_neg hk0, evF_enough m m _ _ (by rw [List.length_drop]; omega) (by rw [List.length_drop]; omega)]
def allE : List Ev → Nat → List (Nat × Nat × List UInt8) × Nat × Nat × Nat
 | [], a => ([], 0, a, 0)
 | (a, k, y, e) :: r, _ => if e = 0 then ((a, k, y) :: (allE r (a + k)).1, (allE r (a + k)).2) else if k = 0 then ([], 0, a, e) else ((allE r (a + k)).1, (allE r (a + k)).2.1 + 1, (allE r (a + k)).2.2)
def allB (bs : List UInt8) (a : Nat) : List (Nat × Nat × List UInt8) × Nat × Nat × Nat := allE (evB bs a) a
def nextE : List Ev → Nat → (Nat × Nat × List UInt8) × Nat × Nat × Nat
 | [], a => ((0, 0, []), 0, a, 0)
 | (a, k, y, e) :: r, _ => if e = 0 then ((a, k, y), 0, a + k, 0) else if k = 0 then ((0, 0, []), 0, a, e) else ((nextE r (a + k)).1, (nextE r (a + k)).2.1 + 1, (nextE r (a + k)).2.2)
def nextB (bs : List UInt8) (a : Nat) : (Nat × Nat × List UInt8) × Nat × Nat × Nat := nextE (evB bs a) a
section
variable {bs y : List UInt8} {k e : Nat}
theorem Zdj (a : Nat) : allB [] a = ([], 0, a, 0) := rfl
theorem Zgi (hb : bs ≠ []) (h : Zg bs = (y, k, 0)) (a : Nat) : allB bs a = ((a, k, y) :: (allB (bs.drop k) (a + k)).1, (allB (bs.drop k) (a + k)).2) := by
 have hk := (Yr h).2.1 rfl
 unfold allB
 rw [Zba hb h, allE, if_pos rfl, if_neg (by omega)]
theorem Zea (hb : bs ≠ []) (h : Zg bs = (y, 0, e)) (he : e ≠ 0) (a : Nat) : allB bs a = ([], 0, a, e) := by
 unfold allB
 rw [Zba hb h, allE, if_neg he, if_pos rfl]
theorem Zgj (hb : bs ≠ []) (h : Zg bs = (y, k, e)) (he : e ≠ 0) (hk : k ≠ 0) (a : Nat) : allB bs a = ((allB (bs.drop k) (a + k)).1, (allB (bs.drop k) (a + k)).2.1 + 1, (allB (bs.drop k) (a + k)).2.2) := by
 unfold allB
 rw [Zba hb h, allE, if_neg he, if_neg hk, if_neg hk]
theorem Zeb (a : Nat) : nextB [] a = ((0, 0, []), 0, a, 0) := rfl
theorem Zec (hb : bs ≠ []) (h : Zg bs = (y, k, 0)) (a : Nat) : nextB bs a = ((a, k, y), 0, a + k, 0) := by
 unfold nextB
 rw [Zba hb h, nextE, if_pos rfl]
theorem Zcz (hb : bs ≠ []) (h : Zg bs = (y, 0, e)) (he : e ≠ 0) (a : Nat) : nextB bs a = ((0, 0, []), 0, a, e) := by
 unfold nextB
 rw [Zba hb h, nextE, if_neg he, if_pos rfl]
theorem Zed (hb : bs ≠ []) (h : Zg bs = (y, k, e)) (he : e ≠ 0) (hk : k ≠ 0) (a : Nat) : nextB bs a = ((nextB (bs.drop k) (a + k)).1, (nextB (bs.drop k) (a + k)).2.1 + 1, (nextB (bs.drop k) (a + k)).2.2) := by
 unfold nextB
 rw [Zba hb h, nextE, if_neg he, if_neg hk, if_neg hk]
end
theorem all_next : ∀ (N : Nat) (bs : List UInt8) (a : Nat), bs.length ≤ N →
 (((nextB bs a).1.2.1 = 0 ∧ allB bs a = ([], (nextB bs a).2)) ∨
  (9 ≤ (nextB bs a).1.2.1 ∧ (nextB bs a).2.2.2 = 0 ∧ a + 9 ≤ (nextB bs a).2.2.1 ∧ (nextB bs a).2.2.1 ≤ a + bs.length ∧
    allB bs a = ((nextB bs a).1 :: (allB (bs.drop ((nextB bs a).2.2.1 - a)) (nextB bs a).2.2.1).1, (nextB bs a).2.1 + (allB (bs.drop ((nextB bs a).2.2.1 - a)) (nextB bs a).2.2.1).2.1, (allB (bs.drop ((nextB bs a).2.2.1 - a)) (nextB bs a).2.2.1).2.2)))
 | 0, bs, a, hN => by
   have hb : bs = [] := List.eq_nil_of_length_eq_zero (by omega)
   subst hb
   exact .inl ⟨rfl, rfl⟩
 | N + 1, bs, a, hN => by
   by_cases hb : bs = []
   ·subst hb
    exact .inl ⟨rfl, rfl⟩
   obtain ⟨⟨y, k, e⟩, h⟩ : ∃ r, Zg bs = r := ⟨_, rfl⟩
   obtain ⟨hk, hk0, _⟩ := Yr h
   by_cases he : e = 0
   ·subst he
    have hk0 := hk0 rfl
    rw [Zec hb h, Zgi hb h]
    refine .inr ⟨hk0, rfl, by dsimp only; omega, by dsimp only; omega, ?_⟩
    dsimp only
    rw [Nat.add_sub_cancel_left, Nat.zero_add]
   ·by_cases hz : k = 0
    ·subst hz
     rw [Zcz hb h he, Zea hb h he]
     exact .inl ⟨rfl, rfl⟩
    ·rw [Zed hb h he hz, Zgj hb h he hz]
     rcases all_next N (bs.drop k) (a + k) (by rw [List.length_drop]; omega) with ⟨h1, h2⟩ | ⟨h1, h2, h3, h4, h5⟩
     ·refine .inl ⟨h1, ?_⟩
      rw [h2]
     ·rw [List.length_drop] at h4
      refine .inr ⟨h1, h2, by dsimp only; omega, by dsimp only; omega, ?_⟩
      rw [h5]
      dsimp only
      generalize (nextB (bs.drop k) (a + k)).2.2.1 = q at *
      rw [List.drop_drop, show k + (q - (a + k)) = q - a by omega, Nat.add_right_comm]
theorem next_end : ∀ (N : Nat) (bs : List UInt8) (a : Nat), bs.length ≤ N → a ≤ (nextB bs a).2.2.1 ∧ (nextB bs a).2.2.1 ≤ a + bs.length ∧ (nextB bs a).2.1 + a ≤ (nextB bs a).2.2.1 ∧ (nextB bs a).1.1 ≤ a + bs.length ∧ (nextB bs a).1.2.1 ≤ a + bs.length
 | 0, bs, a, hN => by
   have hb : bs = [] := List.eq_nil_of_length_eq_zero (by omega)
   subst hb
   simp [Zeb]
 | N + 1, bs, a, hN => by
   by_cases hb : bs = []
   ·subst hb
    simp [Zeb]
   obtain ⟨⟨y, k, e⟩, h⟩ : ∃ r, Zg bs = r := ⟨_, rfl⟩
   obtain ⟨hk, hk0, _⟩ := Yr h
   by_cases he : e = 0
   ·subst he
    have hk0 := hk0 rfl
    rw [Zec hb h]
    dsimp only
    omega
   ·by_cases hz : k = 0
    ·subst hz
     rw [Zcz hb h he]
     dsimp only
     omega
    ·rw [Zed hb h he hz]
     have := next_end N (bs.drop k) (a + k) (by rw [List.length_drop]; omega)
     rw [List.length_drop] at this
     dsimp only
     omega
theorem all_end : ∀ (N : Nat) (bs : List UInt8) (a : Nat), bs.length ≤ N → a ≤ (allB bs a).2.2.1 ∧ (allB bs a).2.2.1 ≤ a + bs.length ∧ (allB bs a).2.1 ≤ bs.length ∧ 9 * (allB bs a).1.length ≤ bs.length ∧ ∀ t ∈ (allB bs a).1, t.1 ≤ a + bs.length ∧ t.2.1 ≤ a + bs.length
 | 0, bs, a, hN => by
   have hb : bs = [] := List.eq_nil_of_length_eq_zero (by omega)
   subst hb
   simp [Zdj]
 | N + 1, bs, a, hN => by
   by_cases hb : bs = []
   ·subst hb
    simp [Zdj]
   obtain ⟨⟨y, k, e⟩, h⟩ : ∃ r, Zg bs = r := ⟨_, rfl⟩
   obtain ⟨hk, hk0, _⟩ := Yr h
   by_cases he : e = 0
   ·subst he
    have hk0 := hk0 rfl
    rw [Zgi hb h]
    obtain ⟨h1, h2, h3, h4, h5⟩ := all_end N (bs.drop k) (a + k) (by rw [List.length_drop]; omega)
    rw [List.length_drop] at h2 h3 h4 h5
    dsimp only
    refine ⟨by omega, by omega, by omega, by rw [List.length_cons]; omega, fun t ht => ?_⟩
    rcases List.mem_cons.1 ht with rfl | ht
    ·dsimp only; omega
    ·have := h5 t ht; omega
   ·by_cases hz : k = 0
    ·subst hz
     rw [Zea hb h he]
     simp
    ·rw [Zgj hb h he hz]
     obtain ⟨h1, h2, h3, h4, h5⟩ := all_end N (bs.drop k) (a + k) (by rw [List.length_drop]; omega)
     rw [List.length_drop] at h2 h3 h4 h5
     dsimp only
     refine ⟨by omega, by omega, by omega, by omega, fun t ht => ?_⟩
     have := h5 t ht; omega
/-! What has come, from the beginning on. -/
def Goes (x : Ev) : Prop := x.2.2.2 = 0 ∨ x.2.1 ≠ 0
def gotE (l : List Ev) : List (Nat × Nat × List UInt8) := (l.filter fun x => x.2.2.2 == 0).map fun x => (x.1, x.2.1, x.2.2.1)
def badE (l : List Ev) : Nat := (l.filter fun x => x.2.2.2 != 0).length
def endE (a : Nat) : List Ev → Nat
 | [] => a
 | x :: l => endE (x.1 + x.2.1) l
theorem Zee (x : Ev) : ∀ (l : List Ev) (a : Nat), endE a (l ++ [x]) = x.1 + x.2.1
 | [], _ => rfl
 | _ :: l, _ => Zee x l _
theorem Znz (l : List Ev) (x : Ev) : gotE (l ++ [x]) = gotE l ++ if x.2.2.2 = 0 then [(x.1, x.2.1, x.2.2.1)] else [] := by
 unfold gotE
 rw [List.filter_append, List.map_append]
 by_cases h : x.2.2.2 = 0 <;> simp [h]
theorem Zn0 (l : List Ev) (x : Ev) : badE (l ++ [x]) = badE l + if x.2.2.2 = 0 then 0 else 1 := by
 unfold badE
 rw [List.filter_append, List.length_append]
 by_cases h : x.2.2.2 = 0 <;> simp [h]
theorem allE_run : ∀ (l r : List Ev) (a : Nat), (∀ x ∈ l, Goes x) → allE (l ++ r) a = (gotE l ++ (allE r (endE a l)).1, badE l + (allE r (endE a l)).2.1, (allE r (endE a l)).2.2)
 | [], r, a, _ => by simp [gotE, badE, endE]
 | (b, k, y, e) :: l, r, a, h => by
   have ih := allE_run l r (b + k) fun x hx => h x (List.mem_cons_of_mem _ hx)
   have h0 : e = 0 ∨ k ≠ 0 := h _ List.mem_cons_self
   rw [List.cons_append, allE, ih]
   by_cases he : e = 0
   ·subst he
    simp [gotE, badE, endE]
   ·have hk : k ≠ 0 := h0.resolve_left he
    rw [if_neg he, if_neg hk]
    simp [gotE, badE, endE, he, Nat.add_right_comm]
end Go.Proofs.YtlldcogkcjnejaaGreat
namespace Go.Proofs.YtlldcogkcjnejaaGreat
open Go.Lib (hid)
open Go.RowKit Go.Shelf
attribute [local go_sem] Oper.semAt_some
theorem Zc6 (a k : Nat) (A : Option Addr) (m c : Nat) (w : World) (hk : k ≤ 140737488351232) :
 Calls Tryz.prog 98 #[.agg #[.int .i64 (a : Nat), .int .i64 (k : Nat), .slice A m c]] w fun e w' => e = .returned (.bool (decide (0 < k))) ∧ Grows w w' := by
 by_cases h : 0 < k
 ·have hd : decide (0 < k) = true := decide_eq_true h
  go_enter Tryz.func98, Tryz.ntmps98
  go_wp2_with (fail)
  go_ret
  exact ⟨by rw [hd]; try rfl, Zb _ _⟩
 ·obtain rfl : k = 0 := by omega
  go_enter Tryz.func98, Tryz.ntmps98
  go_wp2_with (fail)
  go_ret
  exact ⟨rfl, Zb _ _⟩
theorem Zk5 (A : Option Addr) (n c : Nat) (a0 : Nat) (w : World) :
 Calls Tryz.prog 97 #[.slice A n c, .int .i64 (a0 : Nat)] w fun e w' => e = .returned (.func (.func 131) #[] #[.pointer (some ⟨w.heap.size + 1, 0, none⟩), .pointer (some ⟨w.heap.size, 0, none⟩)]) ∧
  (w.alloc (.cells #[.slice A n c] 31)).alloc (.cells #[.int .i64 (a0 : Nat)] 3) = w' := by
 go_enter Tryz.func97, Tryz.ntmps97
 go_wp2_with (fail)
 go_ret
 exact ⟨rfl, rfl⟩
theorem Zfk {P : Program} {n k l f : Nat} {tmps : Array Value} {assign body : Code} {w : World} {R : Ending → World → Prop} (h : RoundIn Fence.wide n P l f tmps assign body w R) : RoundIn Fence.wide k P l f tmps assign body w R :=
 ⟨h.1, fun c cs _ => h.2 c cs fun d hd => by cases hd⟩
abbrev Xv := Ev × Option Addr × Nat
def xItem (x : Xv) : Value := .agg #[.int .i64 (x.1.1 : Nat), .int .i64 (x.1.2.1 : Nat), .slice x.2.1 x.1.2.2.1.length x.2.2]
def xVals (x : Xv) : Array Value := #[xItem x, .int .i64 (x.1.2.2.2 : Nat)]
def Told (N a0 : Nat) (pre : List Xv) (x : Xv) (W0 W1 : World) : Prop :=
 x.1.1 = endE a0 (pre.map (·.1)) ∧
 W1.ownsRow W0.heap.size 5 1 (.slice x.2.1 x.1.2.2.1.length x.2.2) x.1.2.2.1.length (x.1.2.2.1.map byteV) ∧ x.1.1 + x.1.2.1 ≤ N ∧ (x.1.2.2.2 = 0 ∨ x.1.2.2.2 = 21 ∨ x.1.2.2.2 = 22) ∧ (x.1.2.2.2 = 0 → 9 ≤ x.1.2.1) ∧ (x.1.2.1 = 0 ∨ 9 ≤ x.1.2.1)
set_option maxRecDepth 100000 in
set_option maxHeartbeats 4000000 in
theorem Zhx (n : Nat) (n₀ Bf Bb : Nat) (A : Option Addr) (N c : Nat) (bs : List UInt8) (a0 : Nat) (w : World) (hn₀ : n₀ ≤ w.heap.size) (hf : Boxed w Bf 3 (.int .i64 (a0 : Nat))) (hb : Boxed w Bb 31 (.slice A N c))
 (hs : Sl w A N c bs) (hlow : Bytes w n₀ A N bs) (hN : N ≤ 140737488351232) (ha : a0 ≤ N) :
 Gives Tryz.prog n 131 #[.pointer (some ⟨Bf, 0, none⟩), .pointer (some ⟨Bb, 0, none⟩)] xVals (Told N a0) (fun k => k < n₀ ∨ k = Bb) (fun xs => xs.map (·.1) = evB (bs.drop a0) a0) (fun pre => pre.map (·.1) <+: evB (bs.drop a0) a0) w := by
 intro l J Jx W hW hJ hJx hY h0
 have hl := hs.len
 have hcap := hs.cap
 have hbare := hs.bare
 have hfW : Boxed W Bf 3 (.int .i64 (a0 : Nat)) := (hW.block _ hf.lt).trans hf
 have hbW : Boxed W Bb 31 (.slice A N c) := (hW.block _ hb.lt).trans hb
 have hlowW : Bytes W n₀ A N bs := hlow.below (hW.mono hn₀)
 have hn1 : n₀ ≤ W.heap.size := Nat.le_trans hn₀ hW.size
 clear hs hlow hf hb hW hn₀
 have HN1 := hid hn1
 have HBARE := hid hbare
 have hfc := hfW.cell
 clear hn1 hbare hfW
 show CallsIn _ _ _ _ #[.func (.yield l) #[] #[], .pointer (some ⟨Bf, 0, none⟩), .pointer (some ⟨Bb, 0, none⟩)] _ _
 refine callsIn_of_wp Tryz.func131 rfl trivial ?_ rfl
 simp only [Tryz.ntmps131, List.size_toArray, List.length_cons, List.length_nil, Nat.reduceAdd, Nat.reduceSub, Array.replicate_succ, Array.replicate_zero, List.push_toArray, List.append_toArray, List.nil_append, List.cons_append]
 gi_wp2
 gi_loopw [4] (fun i wr => ∃ (pre : List Xv) (k : Nat), k ≤ N ∧ i = .int .i64 (k : Nat) ∧ Hid (pre.map (·.1) ++ evB (bs.drop k) k = evB (bs.drop a0) a0) ∧ Hid (k = endE a0 (pre.map (·.1))) ∧ J pre wr ∧ Hid (n₀ ≤ wr.heap.size) ∧ Hid (Boxed wr Bb 31 (.slice A N c)) ∧ Hid (Bytes wr n₀ A N bs)) (fun i _ => N - (intOf i).toNat)
 case atStart => exact ⟨[], a0, ha, rfl, hid rfl, hid rfl, h0, HN1, hid hbW, hid hlowW⟩
 case round =>
  obtain ⟨pre, k, hk, rfl, HEV, HKE, hj, HNW, HB, HL⟩ := hrel
  have hcb := HB.out.cell
  by_cases hlt : k < N
  ·obtain ⟨ad, rfl⟩ : ∃ ad, A = some ad := by
    obtain ⟨ad, h, _⟩ := HL.out.spot (k := 0) (by omega)
    exact ⟨ad, h⟩
   have hck : ¬ c = k := by omega
   have hcap' : (N : Int) ≤ (c : Int) := by omega
   have hk0 : (0 : Int) ≤ (k : Int) := by omega
   have hk1 : (k : Int) ≤ (N : Int) := by omega
   have hslw : Sl wr (some ad) N c bs := ⟨HL.out.wider HNW.out, hcap, HBARE.out⟩
   have hpart := hslw.part (k := k) (m := N) (by omega) (Nat.le_refl _) hck
   rw [List.take_of_length_le (by omega)] at hpart
   have HP := hid hpart
   clear hslw hpart
   have hfe := Zny (bs.drop k)
   have hfs := Yr (bs := bs.drop k) (y := (Zg (bs.drop k)).1) (k := (Zg (bs.drop k)).2.1) (e := (Zg (bs.drop k)).2.2) rfl
   rw [List.length_drop, hl] at hfs
   have hne : bs.drop k ≠ [] := fun h => by have := congrArg List.length h; rw [List.length_drop] at this; simp at this; omega
   have hev := Zba (bs := bs.drop k) (y := (Zg (bs.drop k)).1) (k := (Zg (bs.drop k)).2.1) (e := (Zg (bs.drop k)).2.2) hne rfl k
   rw [List.drop_drop] at hev
   have hcall := Zag _ _ _ _ _ HP.out (by omega)
   generalize (Zg (bs.drop k)).1 = y at *
   generalize (Zg (bs.drop k)).2.1 = z at *
   generalize (Zg (bs.drop k)).2.2 = er at *
   have HFE := hid hfe
   have HFS := hid hfs
   have HE := hid hev
   have HNE := hid hne
   have HC := hid hcall
   clear hfe hfs hev hne hcall
   gi_wp2_with (fail)
   refine ⟨trivial, (fun h => by cases h), (callsIn_wide.2 HC.out).mono ?_⟩
   rintro e w2 ⟨A2, m2, c2, rfl, hown2, hb2⟩
   obtain rfl : y.length = m2 := by have := hown2.1; simp at this; omega
   have hgw : Grows wr w2 := hb2
   have hga := Zb w2 (.cells #[.int .i64 (k : Nat), .int .i64 (z : Nat), .slice A2 y.length c2] 109)
   have htold : Told N a0 pre ((k, z, y, er), A2, c2) wr (w2.alloc (.cells #[.int .i64 (k : Nat), .int .i64 (z : Nat), .slice A2 y.length c2] 109)) :=
    ⟨HKE.out, Zd hown2 hga, by have := HFS.out.1; dsimp only; omega, HFE.out, HFS.out.2.1, HFS.out.1.imp id And.left⟩
   obtain ⟨fn, tmps, assign, body, hy, hR⟩ := hY pre ((k, z, y, er), A2, c2) wr _ hj (Grows.trans hgw hga) htold
   dsimp only [xVals, xItem] at hy
   have hz31 : z ≤ 140737488351232 := by have := HFS.out.1; omega
   have HGW := hid (Grows.trans hgw hga)
   have HR := hid hR
   have HSZ := hid hgw.size
   clear hown2 hb2 hgw hga htold hR
   gi_wp2_with (fail)
   refine ⟨(fun h => by cases h), RoundIn.mono (Zfk HR.out) ?_⟩
   rintro e W3 (⟨rfl, hJ3, hsz3, hk3⟩ | ⟨rfl, hJx3⟩)
   ·have hB1 : (w2.alloc (.cells #[.int .i64 (k : Nat), .int .i64 (z : Nat), .slice A2 y.length c2] 109)).heap[w2.heap.size]? = some (.cells #[.int .i64 (k : Nat), .int .i64 (z : Nat), .slice A2 y.length c2] 109 (0, 0)) := heap_alloc_new w2 _
    have hszw : wr.heap.size ≤ w2.heap.size := HSZ.out
    have hB3 := (hk3 w2.heap.size (by simp) (.inr hszw)).trans hB1
    have hlt3 := (Array.getElem?_eq_some_iff.1 hB3).1
    have c0 := cell_of_row W3 w2.heap.size 0 _ _ _ hB3
    have c1 := cell_of_row W3 w2.heap.size 1 _ _ _ hB3
    have c2' := cell_of_row W3 w2.heap.size 2 _ _ _ hB3
    simp only [Gt] at c0 c1 c2'
    have hBb : Boxed W3 Bb 31 (.slice (some ad) N c) := ((hk3 Bb (Nat.lt_of_lt_of_le HB.out.lt HGW.out.size) (.inl (.inr rfl))).trans (HGW.out.block _ HB.out.lt)).trans HB.out
    have hL3 : Bytes W3 n₀ (some ad) N bs := HL.out.carry fun p hp => by
     have h1 : p.block < wr.heap.size := Nat.lt_of_lt_of_le hp HNW.out
     rw [World.cell?_of_block (hk3 p.block (Nat.lt_of_lt_of_le h1 HGW.out.size) (.inl (.inl hp)))]
     exact HGW.out.cell h1
    have hn3 : n₀ ≤ W3.heap.size := Nat.le_trans HNW.out (Nat.le_trans HGW.out.size hsz3)
    have HB3 := hid hBb
    have HL3 := hid hL3
    have HN3 := hid hn3
    have hpass := Zc6 k z A2 y.length c2 W3 hz31
    clear hk3 hB1 hB3 hBb hL3 hn3 hszw hsz3
    by_cases hz : z = 0
    ·subst hz
     gi_wp2_with (fail)
     refine ⟨trivial, (fun h => by cases h), (callsIn_wide.2 hpass).mono ?_⟩
     rintro e W4 ⟨rfl, hg4⟩
     have hJ4 := hJ _ _ _ hJ3 hg4
     have HJ4 := hid hJ4
     clear hJ4 hpass
     gi_wp2_with (fail)
     refine bodyPost_ret (results_none rfl _ _ _) rfl ?_
     refine ⟨⟨_, rfl⟩, .inl ⟨_, ?_, HJ4.out⟩⟩
     rw [← HEV.out, HE.out]
     simp
    ·have hdz : decide (0 < z) = true := by simp; omega
     rw [hdz] at hpass
     gi_wp2_with (fail)
     refine ⟨trivial, (fun h => by cases h), (callsIn_wide.2 hpass).mono ?_⟩
     rintro e W4 ⟨rfl, hg4⟩
     have hJ4 := hJ _ _ _ hJ3 hg4
     have HJ4 := hid hJ4
     have HG4 := hid hg4
     have hzk : k + z ≤ N := by have := HFS.out.1; omega
     clear hJ4 hpass hg4 hdz
     gi_wp2_with (fail)
     go_roundw
     case rel =>
      refine ⟨pre ++ [((k, z, y, er), A2, c2)], k + z, hzk, by go_num, hid ?_, hid (by rw [List.map_append, List.map_singleton, Zee]), HJ4.out, hid (Nat.le_trans HN3.out HG4.out.size), hid ((HG4.out.block _ HB3.out.lt).trans HB3.out), hid (HL3.out.below (HG4.out.mono HN3.out))⟩
      rw [← HEV.out, HE.out, if_neg hz]
      simp
     case measure => simp [intOf]; omega
   ·gi_wp2_with (fail)
    refine ⟨trivial, ?_⟩
    gi_wp2_with (fail)
    refine bodyPost_ret (results_none rfl _ _ _) rfl ?_
    refine ⟨⟨_, rfl⟩, .inr ⟨_, ?_, hJx3⟩⟩
    rw [← HEV.out, HE.out]
    refine ⟨_, by rw [List.map_append, List.append_assoc]; rfl⟩
  ·obtain rfl : k = N := by omega
   gi_wp2_with (fail)
   go_end0
   refine ⟨⟨_, rfl⟩, .inl ⟨pre, ?_, hj⟩⟩
   rw [← HEV.out, List.drop_of_length_le (by omega), Zrr, List.append_nil]
end Go.Proofs.YtlldcogkcjnejaaGreat
namespace Go.Proofs.YtlldcogkcjnejaaGreat
open Go.RowKit
def Lowly (A w : World) : Prop := A.heap.size ≤ w.heap.size ∧ ∀ k, k < A.heap.size → w.heap[k]? = A.heap[k]?
theorem Lowly.grows {A w : World} (h : Grows A w) : Lowly A w := ⟨h.size, fun k hk => h.block k hk⟩
theorem Lowly.trans {A w w' : World} (h : Lowly A w) (hs : w.heap.size ≤ w'.heap.size) (hk : ∀ k, k < A.heap.size → w'.heap[k]? = w.heap[k]?) : Lowly A w' := ⟨Nat.le_trans h.1 hs, fun k h1 => (hk k h1).trans (h.2 k h1)⟩
theorem Row.lowly {A w : World} {X : Option Addr} {n : Nat} {xs : List Value} (h : Row A A.heap.size X n xs) (hl : Lowly A w) : Row w w.heap.size X n xs :=
 ⟨h.len, fun k v hv => by
  obtain ⟨ad, h1, h2, h3⟩ := h.spot k v hv
  exact ⟨ad, h1, Nat.lt_of_lt_of_le h2 hl.1, by rw [World.cell?_of_block (hl.2 (ad.add k).block (by rw [Z4]; exact h2))]; exact h3⟩⟩
theorem Sl.lowly {A w : World} {X : Option Addr} {n c : Nat} {bs : List UInt8} (h : Sl A X n c bs) (hl : Lowly A w) : Sl w X n c bs := ⟨Row.lowly h.bytes hl, h.cap, h.bare⟩
theorem Zgh {n₀ m n₁ : Nat} {w : World} {e : TypeId} {size : Nat} {v : Value} {n : Nat} {xs : List Value} (h : w.ownsRow n₁ e size v n xs) : ∀ g, v.ownBlock = some g → n₁ ≤ g ∧ Mine n₀ m n₁ w g := by
 intro g hg
 rcases h.2 with ⟨rfl, _⟩ | ⟨g', cap, cur, rfl, hb, hh, _⟩
 ·simp [Value.ownBlock] at hg
 ·obtain rfl : g' = g := by simpa [Value.ownBlock] using hg
  exact ⟨hb, .inr ⟨hb, _, _, _, hh⟩⟩
end Go.Proofs.YtlldcogkcjnejaaGreat
