/-
  The answer's First, in one word: the body, its frame's length and what is wrong, as of frame.First.
-/
import Derived.Test.YtchndjebgpibjaaRefFirst
namespace Go.Proofs.Ytchndjebgpibjaa
open Go.RowKit

theorem head_like (b0 b1 b2 b3 : UInt8) (T : Nat) (hT : 256 * b0.toNat + b1.toNat = T) : [b0, b1, b2, b3] = headB T ↔ b2.toNat + b0.toNat = 255 ∧ b3.toNat + b1.toNat = 255 := by
  have l0 := b0.toNat_lt
  have l1 := b1.toNat_lt
  have l2 := b2.toNat_lt
  have l3 := b3.toNat_lt
  unfold headB
  simp only [List.cons.injEq, and_true]
  constructor
  · rintro ⟨_, _, h2, h3⟩
    have h2 := congrArg UInt8.toNat h2
    have h3 := congrArg UInt8.toNat h3
    rw [UInt8.toNat_ofNat'] at h2 h3
    omega
  · rintro ⟨h2, h3⟩
    refine ⟨?_, ?_, ?_, ?_⟩ <;> apply UInt8.toNat_inj.1 <;> rw [UInt8.toNat_ofNat'] <;> omega

theorem refFirst_own (A : Option Addr) (n c : Nat) (bs : List UInt8) (w : World) (hs : Sl w A n c bs) (hn : n ≤ 140737488351232) :
    Calls Try.prog 25 #[.slice A n c] w fun e w' => ∃ A' m c', e = .returned (.tuple #[.slice A' m c', .int .i64 ((firstB bs).2.1 : Nat), .int .i64 ((firstB bs).2.2 : Nat)]) ∧ w'.ownsRow w.heap.size 5 1 (.slice A' m c') m ((firstB bs).1.map byteV) ∧ Below w.heap.size w w' := by
  have hl := hs.len
  by_cases h4 : n < 4
  · refine (rf_short A n c w h4).mono ?_
    rintro e w' ⟨rfl, hb⟩
    have hf : firstB bs = ([], 0, 21) := by unfold firstB; rw [if_pos (by omega)]
    rw [hf]
    exact ⟨none, 0, 0, rfl, World.ownsRow_nil _ _ _ _, hb⟩
  · match bs, hl with
    | [], hl => simp at hl; omega
    | [_], hl => simp at hl; omega
    | [_, _], hl => simp at hl; omega
    | [_, _, _], hl => simp at hl; omega
    | b0 :: b1 :: b2 :: b3 :: bs, hl =>
      obtain ⟨ad, rfl⟩ : ∃ ad, A = some ad := by
        obtain ⟨ad, h, _⟩ := hs.bytes.spot (k := 0) (by omega)
        exact ⟨ad, h⟩
      have ht : toldN (b0 :: b1 :: b2 :: b3 :: bs) = 256 * b0.toNat + b1.toNat := rfl
      have hlike := head_like b0 b1 b2 b3 _ rfl
      generalize hT : 256 * b0.toNat + b1.toNat = T at *
      have hk : (b0 :: b1 :: b2 :: b3 :: bs).take 4 = [b0, b1, b2, b3] := rfl
      have h4' : ¬ (b0 :: b1 :: b2 :: b3 :: bs).length < 4 := by omega
      by_cases hr : 1 ≤ T ∧ T ≤ 8192
      · by_cases hm : [b0, b1, b2, b3] = headB T
        · have hcond : ¬ (¬ (1 ≤ T ∧ T ≤ 8192) ∨ [b0, b1, b2, b3] ≠ headB T) := fun h => h.elim (fun h => h hr) (fun h => h hm)
          obtain ⟨m2, m3⟩ := hlike.1 hm
          by_cases h8 : n < T + 8
          · refine (rf_cut ad n c b0 b1 b2 b3 bs w hs hn T hT hr.1 hr.2 m2 m3 h8).mono ?_
            rintro e w' ⟨rfl, hb⟩
            have hf : firstB (b0 :: b1 :: b2 :: b3 :: bs) = ([], 0, 21) := by unfold firstB; rw [if_neg h4', ht, hk, if_neg hcond, if_pos (by omega)]
            rw [hf]
            exact ⟨none, 0, 0, rfl, World.ownsRow_nil _ _ _ _, hb⟩
          · have h8' : ¬ (b0 :: b1 :: b2 :: b3 :: bs).length < T + 8 := by omega
            have hxe : (b0 :: b1 :: b2 :: b3 :: bs).take (T + 4) = b0 :: b1 :: b2 :: b3 :: bs.take T := rfl
            have hxd : ((b0 :: b1 :: b2 :: b3 :: bs).drop 4).take T = bs.take T := rfl
            have hxl : (bs.take T).length = T := by rw [List.length_take]; simp only [List.length_cons] at hl; omega
            have hput : putB (bs.take T) = (b0 :: b1 :: b2 :: b3 :: bs).take (T + 4) ++ tailB ((b0 :: b1 :: b2 :: b3 :: bs).take (T + 4)) := by
              unfold putB
              rw [hxl, if_pos hr]
              unfold frameB
              rw [hxl, ← hm, hxe]
              rfl
            have hsplit : (b0 :: b1 :: b2 :: b3 :: bs).take (T + 8) = (b0 :: b1 :: b2 :: b3 :: bs).take (T + 4) ++ ((b0 :: b1 :: b2 :: b3 :: bs).drop (T + 4)).take 4 := by
              rw [← List.take_add]
            by_cases hx : ((b0 :: b1 :: b2 :: b3 :: bs).drop (T + 4)).take 4 = tailB ((b0 :: b1 :: b2 :: b3 :: bs).take (T + 4))
            · refine (rf_ok ad n c b0 b1 b2 b3 bs w hs hn T hT hr.1 hr.2 m2 m3 (by omega) (bs.take T) hxe (by rw [hput, hsplit, hx])).mono ?_
              rintro e w' ⟨A', c', rfl, hs', hb⟩
              have hf : firstB (b0 :: b1 :: b2 :: b3 :: bs) = (bs.take T, T + 8, 0) := by
                unfold firstB; rw [if_neg h4', ht, hk, if_neg hcond, if_neg h8', if_neg (fun h => h hx), hxd]
              rw [hf]
              exact ⟨A', T, c', rfl, hs', hb⟩
            · refine (rf_bad ad n c b0 b1 b2 b3 bs w hs hn T hT hr.1 hr.2 m2 m3 (by omega) (bs.take T) hxe (fun h => hx ?_)).mono ?_
              · rw [hput, hsplit] at h
                exact (List.append_cancel_left h).symm
              · rintro e w' ⟨rfl, hb⟩
                have hf : firstB (b0 :: b1 :: b2 :: b3 :: bs) = ([], T + 8, 22) := by unfold firstB; rw [if_neg h4', ht, hk, if_neg hcond, if_neg h8', if_pos hx]
                rw [hf]
                exact ⟨none, 0, 0, rfl, World.ownsRow_nil _ _ _ _, hb⟩
        · have hf : firstB (b0 :: b1 :: b2 :: b3 :: bs) = ([], 0, 22) := by unfold firstB; rw [if_neg h4', ht, hk, if_pos (.inr hm)]
          by_cases m2 : b2.toNat + b0.toNat = 255
          · have m3 : ¬ b3.toNat + b1.toNat = 255 := fun h => hm (hlike.2 ⟨m2, h⟩)
            refine (rf_three ad n c b0 b1 b2 b3 bs w hs hn T hT hr.1 hr.2 m2 m3).mono ?_
            rintro e w' ⟨rfl, hb⟩
            rw [hf]
            exact ⟨none, 0, 0, rfl, World.ownsRow_nil _ _ _ _, hb⟩
          · refine (rf_two ad n c b0 b1 b2 b3 bs w hs hn T hT hr.1 hr.2 m2).mono ?_
            rintro e w' ⟨rfl, hb⟩
            rw [hf]
            exact ⟨none, 0, 0, rfl, World.ownsRow_nil _ _ _ _, hb⟩
      · refine (rf_zero ad n c b0 b1 b2 b3 bs w hs hn T hT hr).mono ?_
        rintro e w' ⟨rfl, hb⟩
        have hf : firstB (b0 :: b1 :: b2 :: b3 :: bs) = ([], 0, 22) := by unfold firstB; rw [if_neg h4', ht, if_pos (.inl hr)]
        rw [hf]
        exact ⟨none, 0, 0, rfl, World.ownsRow_nil _ _ _ _, hb⟩
theorem refFirst_any (A : Option Addr) (n c : Nat) (bs : List UInt8) (w : World) (hs : Sl w A n c bs) (hn : n ≤ 140737488351232) :
    Calls Try.prog 25 #[.slice A n c] w fun e w' => ∃ A' m c', e = .returned (.tuple #[.slice A' m c', .int .i64 ((firstB bs).2.1 : Nat), .int .i64 ((firstB bs).2.2 : Nat)]) ∧ Sl w' A' m c' (firstB bs).1 ∧ Below w.heap.size w w' :=
  (refFirst_own A n c bs w hs hn).mono fun _ _ ⟨A', m, c', he, ho, hb⟩ => ⟨A', m, c', he, Sl.owned ho, hb⟩
end Go.Proofs.Ytchndjebgpibjaa
