/-
  Next, and the answer's, at any place; one item as a slice of items.
-/
import Derived.Test.YtchndjebgpibjaaHead3
namespace Go.Proofs.Ytchndjebgpibjaa
open Go.RowKit

/-- The next one, from any place on: the item, where it ends, what is wrong. -/
def nextI (bs : List UInt8) (a : Int) : It × Int × Nat := if a < 0 ∨ (bs.length : Int) < a then ((0, 0, []), a, 1) else ((nextB (bs.drop a.toNat) a.toNat).1, ((nextB (bs.drop a.toNat) a.toNat).2.2.1 : Int), (nextB (bs.drop a.toNat) a.toNat).2.2.2)
theorem nextI_in (bs : List UInt8) (k : Nat) (hk : k ≤ bs.length) : nextI bs (k : Int) = ((nextB (bs.drop k) k).1, ((nextB (bs.drop k) k).2.2.1 : Int), (nextB (bs.drop k) k).2.2.2) := by
  unfold nextI
  rw [if_neg (by omega), Int.toNat_natCast]

def NextPost (bs : List UInt8) (a : Int) (w : World) (e : Ending) (w' : World) : Prop :=
  ∃ (A' : Option Addr) (m c' x0 x1 er : Nat) (y : List UInt8) (en : Int), e = .returned (.tuple #[.agg #[.int .i64 (x0 : Nat), .int .i64 (x1 : Nat), .slice A' m c'], .int .i64 en, .int .i64 (er : Nat)]) ∧ Sl w' A' m c' y ∧ Grows w w' ∧ nextI bs a = ((x0, x1, y), en, er)
theorem next_any (A : Option Addr) (N c : Nat) (bs : List UInt8) (a : Int) (w : World) (hs : Sl w A N c bs) (hN : N ≤ 140737488351232) : Calls Try.prog 12 #[.slice A N c, .int .i64 a] w (NextPost bs a w) := by
  have hl := hs.len
  by_cases h : a < 0 ∨ (N : Int) < a
  · refine (next_out A N c a w h).mono ?_
    rintro e w' ⟨rfl, hb⟩
    exact ⟨none, 0, 0, 0, 0, 1, [], a, rfl, Sl.nil _, hb, by unfold nextI; rw [hl, if_pos h]⟩
  · obtain ⟨k, rfl⟩ := Int.eq_ofNat_of_zero_le (show 0 ≤ a by omega)
    refine (next_in A N c bs k w hs hN (by omega)).mono ?_
    rintro e w' ⟨A', m, c', rfl, ho, hb⟩
    exact ⟨A', m, c', _, _, _, _, _, rfl, Sl.owned ho, hb, nextI_in bs k (by omega)⟩
theorem refNext_any (A : Option Addr) (N c : Nat) (bs : List UInt8) (a : Int) (w : World) (hs : Sl w A N c bs) (hN : N ≤ 140737488351232) : Calls Try.prog 13 #[.slice A N c, .int .i64 a] w (NextPost bs a w) := by
  have hl := hs.len
  by_cases h : a < 0 ∨ (N : Int) < a
  · refine (refNext_out A N c a w h).mono ?_
    rintro e w' ⟨rfl, hb⟩
    exact ⟨none, 0, 0, 0, 0, 1, [], a, rfl, Sl.nil _, hb, by unfold nextI; rw [hl, if_pos h]⟩
  · obtain ⟨k, rfl⟩ := Int.eq_ofNat_of_zero_le (show 0 ≤ a by omega)
    refine (refNext_in A N c bs k w hs hN (by omega)).mono ?_
    rintro e w' ⟨A', m, c', rfl, ho, hb⟩
    exact ⟨A', m, c', _, _, _, _, _, rfl, Sl.owned ho, hb, nextI_in bs k (by omega)⟩

/-- One item, in a block of its own. -/
theorem item_one {w : World} {g ty x0 x1 m c : Nat} {A : Option Addr} {y : List UInt8} (h : Whole w g ty #[.int .i64 (x0 : Nat), .int .i64 (x1 : Nat), .slice A m c]) (hs : Sl w A m c y) : Items w (some ⟨g, 0, none⟩) 1 1 [(x0, x1, y)] :=
  items_lit h [(x0, x1, y)] [(A, m, c)] rfl rfl (Nat.le_refl _) rfl fun i h t hh ht => by
    match i, hh, ht with
    | 0, hh, ht => cases hh; cases ht; exact hs
end Go.Proofs.Ytchndjebgpibjaa
