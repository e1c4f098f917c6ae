/-
  frame.First in one word: what is handed back has the body of what was handed in, and lies in new memory or nowhere.
-/
import Derived.Test.YtchndjebgpibjaaFirst
namespace Go.Proofs.Ytchndjebgpibjaa
open Go.RowKit

theorem first_own (A : Option Addr) (n c : Nat) (bs : List UInt8) (w : World) (hs : Sl w A n c bs) (hn : n ≤ 140737488351232) :
    Calls Try.prog 24 #[.slice A n c] w fun e w' => ∃ A' m c', e = .returned (.tuple #[.slice A' m c', .int .i64 ((firstB bs).2.1 : Nat), .int .i64 ((firstB bs).2.2 : Nat)]) ∧ w'.ownsRow w.heap.size 5 1 (.slice A' m c') m ((firstB bs).1.map byteV) ∧ Below w.heap.size w w' := by
  have hl := hs.len
  by_cases h4 : n < 4
  · refine (first_short A n c w h4).mono ?_
    rintro e w' ⟨rfl, hb⟩
    have hf : firstB bs = ([], 0, 21) := by unfold firstB; rw [if_pos (by omega)]
    rw [hf]
    exact ⟨none, 0, 0, rfl, World.ownsRow_nil _ _ _ _, hb⟩
  · match bs, hl with
    | [], hl => simp at hl; omega
    | [_], hl => simp at hl; omega
    | [_, _], hl => simp at hl; omega
    | [_, _, _], hl => simp at hl; omega
    | b0 :: b1 :: b2 :: b3 :: bs, hl =>
      obtain ⟨ad, rfl⟩ : ∃ ad, A = some ad := by
        obtain ⟨ad, h, _⟩ := hs.bytes.spot (k := 0) (by omega)
        exact ⟨ad, h⟩
      have ht : toldN (b0 :: b1 :: b2 :: b3 :: bs) = 256 * b0.toNat + b1.toNat := rfl
      generalize hT : 256 * b0.toNat + b1.toNat = T at *
      have hk : (b0 :: b1 :: b2 :: b3 :: bs).take 4 = [b0, b1, b2, b3] := rfl
      have h4' : ¬ (b0 :: b1 :: b2 :: b3 :: bs).length < 4 := by omega
      by_cases hr : 1 ≤ T ∧ T ≤ 8192
      · by_cases hm : [b0, b1, b2, b3] = headB T
        · have hcond : ¬ (¬ (1 ≤ T ∧ T ≤ 8192) ∨ [b0, b1, b2, b3] ≠ headB T) := fun h => h.elim (fun h => h hr) (fun h => h hm)
          by_cases h8 : n < T + 8
          · refine (first_cut ad n c b0 b1 b2 b3 bs w hs T hT hr.1 hr.2 hm h8).mono ?_
            rintro e w' ⟨rfl, hb⟩
            have hf : firstB (b0 :: b1 :: b2 :: b3 :: bs) = ([], 0, 21) := by unfold firstB; rw [if_neg h4', ht, hk, if_neg hcond, if_pos (by omega)]
            rw [hf]
            exact ⟨none, 0, 0, rfl, World.ownsRow_nil _ _ _ _, hb⟩
          · have h8' : ¬ (b0 :: b1 :: b2 :: b3 :: bs).length < T + 8 := by omega
            by_cases hx : ((b0 :: b1 :: b2 :: b3 :: bs).drop (T + 4)).take 4 = tailB ((b0 :: b1 :: b2 :: b3 :: bs).take (T + 4))
            · refine (first_ok ad n c b0 b1 b2 b3 bs w hs T hT hr.1 hr.2 hm (by omega) hn hx).mono ?_
              rintro e w' ⟨A', c', rfl, hs', hb⟩
              have hf : firstB (b0 :: b1 :: b2 :: b3 :: bs) = (((b0 :: b1 :: b2 :: b3 :: bs).drop 4).take T, T + 8, 0) := by
                unfold firstB; rw [if_neg h4', ht, hk, if_neg hcond, if_neg h8', if_neg (fun h => h hx)]
              rw [hf]
              exact ⟨A', T, c', rfl, hs', hb⟩
            · refine (first_sum ad n c b0 b1 b2 b3 bs w hs T hT hr.1 hr.2 hm (by omega) hx).mono ?_
              rintro e w' ⟨rfl, hb⟩
              have hf : firstB (b0 :: b1 :: b2 :: b3 :: bs) = ([], T + 8, 22) := by unfold firstB; rw [if_neg h4', ht, hk, if_neg hcond, if_neg h8', if_pos hx]
              rw [hf]
              exact ⟨none, 0, 0, rfl, World.ownsRow_nil _ _ _ _, hb⟩
        · refine (first_unlike ad n c b0 b1 b2 b3 bs w hs T hT hr.1 hr.2 hm).mono ?_
          rintro e w' ⟨rfl, hb⟩
          have hf : firstB (b0 :: b1 :: b2 :: b3 :: bs) = ([], 0, 22) := by unfold firstB; rw [if_neg h4', ht, hk, if_pos (.inr hm)]
          rw [hf]
          exact ⟨none, 0, 0, rfl, World.ownsRow_nil _ _ _ _, hb⟩
      · refine (first_zero ad n c b0 b1 b2 b3 bs w hs T hT hr).mono ?_
        rintro e w' ⟨rfl, hb⟩
        have hf : firstB (b0 :: b1 :: b2 :: b3 :: bs) = ([], 0, 22) := by unfold firstB; rw [if_neg h4', ht, if_pos (.inl hr)]
        rw [hf]
        exact ⟨none, 0, 0, rfl, World.ownsRow_nil _ _ _ _, hb⟩
theorem first_any (A : Option Addr) (n c : Nat) (bs : List UInt8) (w : World) (hs : Sl w A n c bs) (hn : n ≤ 140737488351232) :
    Calls Try.prog 24 #[.slice A n c] w fun e w' => ∃ A' m c', e = .returned (.tuple #[.slice A' m c', .int .i64 ((firstB bs).2.1 : Nat), .int .i64 ((firstB bs).2.2 : Nat)]) ∧ Sl w' A' m c' (firstB bs).1 ∧ Below w.heap.size w w' :=
  (first_own A n c bs w hs hn).mono fun _ _ ⟨A', m, c', he, ho, hb⟩ => ⟨A', m, c', he, Sl.owned ho, hb⟩
end Go.Proofs.Ytchndjebgpibjaa
