/-
  The iterator of package span that tells where each piece begins.
-/
import Derived.Test.YtfopiifchcaciaaSpSize
import Derived.Test.YtfopiifchcaciaaRangeR
import Derived.OwnWalkIn
import Derived.TacticsInMore
import Derived.LoopNIn
import Derived.LoopIn
namespace Go.Proofs.Ytfopiifchcaciaa
open Go.RowKit
set_option linter.unusedVariables false
set_option linter.unusedSimpArgs false

theorem round_wideS {P : Program} {n k l f : Nat} {tmps : Array Value} {assign body : Code} {w : World} {R : Ending → World → Prop} (h : RoundIn Fence.wide n P l f tmps assign body w R) : RoundIn Fence.wide k P l f tmps assign body w R :=
  ⟨h.1, fun c cs _ => h.2 c cs fun d hd => by cases hd⟩
theorem begins_any (A : Option Addr) (N c : Nat) (w : World) : Calls Try.prog 39 #[.slice A N c] w fun e w' =>
    e = .returned (.func (.func 52) #[] #[.pointer (some ⟨w.heap.size, 0, none⟩)]) ∧ w.alloc (.cells #[.slice A N c] 28) = w' := by
  go_enter Try.func39, Try.ntmps39
  go_wp2_with (fail)
  go_ret
  exact ⟨rfl, rfl⟩

/-- The blocks in which sizes lie. -/
def inSizes (A : Option Addr) (N : Nat) (k : Nat) : Prop := ∃ ad, A = some ad ∧ 0 < N ∧ k = ad.block
theorem Ints.kept {w w' : World} {A : Option Addr} {N c : Nat} {xs : List Int} {R : Nat → Prop} (h : Ints w A N c xs) (hs : Spares R w w') (hR : ∀ k, inSizes A N k → ¬ R k) : Ints w' A N c xs := by
  refine ⟨⟨h.row.len, fun k v hv => ?_⟩, h.cap, h.bare⟩
  obtain ⟨ad, hA, hb, hc⟩ := h.row.spot k v hv
  have hk : k < xs.length := by
    rcases Nat.lt_or_ge k (xs.map iV).length with h' | h'
    · simpa using h'
    · rw [List.getElem?_eq_none h'] at hv; cases hv
  have hl := h.len
  have hs1 := hs.same ad.block hb (hR _ ⟨ad, hA, by omega, rfl⟩)
  have e : w'.cell? (ad.add k) = w.cell? (ad.add k) := World.cell?_of_block (by rw [add_block]; exact hs1)
  exact ⟨ad, hA, Nat.lt_of_lt_of_le hb hs.size, e.trans hc⟩
theorem Ints.lies {w : World} {A : Option Addr} {N c : Nat} {xs : List Int} (h : Ints w A N c xs) : ∀ k, inSizes A N k → k < w.heap.size := by
  rintro k ⟨ad, hA, hN, rfl⟩
  obtain ⟨ad', x, hA', _, _, hb⟩ := h.get hN
  rw [hA] at hA'
  injection hA' with hA'
  rw [hA']
  exact hb

set_option maxRecDepth 100000 in
set_option maxHeartbeats 4000000 in
theorem begins_gives (n B1 : Nat) (A : Option Addr) (N c : Nat) (xs : List Int) (w : World) (hb : Boxed w B1 28 (.slice A N c)) (hx : Ints w A N c xs) (hr : rightP xs = true) :
    GivesR Try.prog n 52 #[.pointer (some ⟨B1, 0, none⟩)] (fun p : Int × Int => #[.int .i64 p.1, .int .i64 p.2]) (fun pre x => pre.length < N ∧ x = ((pre.length : Int), tot (xs.take pre.length)))
      (fun k => k = B1 ∨ inSizes A N k) (fun ps => ps.length = N) w := by
  intro l J Jx W R0 hW hD hlt hJ hJx hY h0
  have hbW : Boxed W B1 28 (.slice A N c) := (hW.block _ hb.lt).trans hb
  have cb := hbW.cell
  have HX := Lib.hid (hx.grow hW)
  have HR := Lib.hid hr
  have hn : N ≤ 512 := by have := right_len hr; have := hx.len; omega
  have HD := Lib.hid (show ∀ k, inSizes A N k → ¬ R0 k from fun k hk h => hD k h (.inr hk))
  have HY := Lib.hid hY
  clear hx hr hb hbW hY hW
  show CallsIn _ _ _ _ #[.func (.yield l) #[] #[], .pointer (some ⟨B1, 0, none⟩)] _ _
  refine callsIn_of_wp Try.func52 rfl trivial ?_ rfl
  simp only [Try.ntmps52, List.size_toArray, List.length_cons, List.length_nil, Nat.reduceAdd, Nat.reduceSub, Array.replicate_succ, Array.replicate_zero, List.push_toArray, List.append_toArray, List.nil_append, List.cons_append]
  gi_wp2_with (fail)
  gi_loopw [3, 8] (fun b i wr => ∃ (pre : List (Int × Int)) (R : Nat → Prop) (j : Nat) (t : Int), j ≤ N ∧ b = .int .i64 t ∧ i = .int .i64 (j : Int) ∧ Hid (t = tot (xs.take j)) ∧ Hid (pre.length = j) ∧ Hid (J pre R wr) ∧ Hid (Spares R0 W wr) ∧ Hid (∀ k, R k → R0 k ∨ W.heap.size ≤ k)) (fun _ i _ => N - (intOf i).toNat)
  case atStart => exact ⟨[], R0, 0, 0, by omega, rfl, rfl, Lib.hid rfl, Lib.hid rfl, Lib.hid h0, Lib.hid (Spares.refl _ _), Lib.hid fun k h => .inl h⟩
  case round =>
    obtain ⟨pre, R, j, t, hj, rfl, rfl, HT, HP, HJ, HS, HRR⟩ := hrel
    by_cases hltj : j < N
    · have hlt' : (j : Int) < (N : Int) := by omega
      obtain ⟨ad, x, rfl, hc1, hx1, hb1⟩ := (HX.out.kept HS.out HD.out).get hltj
      have HN := Lib.hid (tot_next xs j x hx1)
      have hb2 := right_get HR.out hx1
      have hb3 := right_tot HR.out j
      rw [← HT.out] at hb3
      have k1 : IntKind.i64.wrap (t + x) = t + x := IntWalk.i64_in _ (by omega)
      have k2 : wrap64 (t + x) = t + x := IntWalk.wrap64_in _ (by omega)
      obtain ⟨fn, tmps, assign, body, hy, hR⟩ := HY.out pre R ((j : Int), t) wr HJ.out ⟨by rw [HP.out]; exact hltj, by rw [HP.out, ← HT.out]⟩
      dsimp only at hy
      have HRD := Lib.hid hR
      clear hx1 hb1 hb2 hb3 hR
      gi_wp2_with (fail)
      refine ⟨(fun h => by cases h), RoundIn.mono (round_wideS HRD.out) ?_⟩
      rintro e W' ⟨R', hr', hs', (⟨rfl, hj'⟩ | ⟨rfl, hjx⟩)⟩
      · have HN2 := Lib.hid (And.intro hj' (And.intro hs' hr'))
        clear hj' hs' hr' HRD hy
        gi_wp2_with (fail)
        go_roundw
        case rel =>
          obtain ⟨q1, q2, q3⟩ := HN2.out
          refine ⟨pre ++ [((j : Int), t)], R', j + 1, t + x, by omega, rfl, by go_num, Lib.hid (by rw [HN.out, HT.out]), Lib.hid (by rw [List.length_append, HP.out]; rfl), Lib.hid q1, Lib.hid ?_, Lib.hid fun k hk => ?_⟩
          · exact Spares.wider (Spares.trans (Spares.wider (own' := fun k => R0 k ∨ W.heap.size ≤ k) HS.out fun k _ h => .inl h) (Spares.wider q2 fun k _ hk => HRR.out k hk)) fun k hk h => h.elim id fun h => by omega
          · rcases q3 k hk with h | h
            · exact HRR.out k h
            · exact .inr (Nat.le_trans HS.out.size h)
        case measure => simp [intOf]; omega
      · gi_wp2_with (fail)
        refine bodyPost_ret (results_none rfl _ _ _) rfl ?_
        exact ⟨⟨_, rfl⟩, .inr ⟨_, _, hjx⟩⟩
    · obtain rfl : j = N := by omega
      gi_wp2_with (fail)
      go_end0
      exact ⟨⟨_, rfl⟩, .inl ⟨pre, R, HP.out, HJ.out⟩⟩
end Go.Proofs.Ytfopiifchcaciaa
