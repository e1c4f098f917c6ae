/-
  hints: of places; hint: one.
-/
import Derived.Test.YtnnkioekjobbmaaFdPl
import Derived.LoopTactic
namespace Go.Proofs.Ytnnkioekjobbmaa
open Go.RowKit
set_option linter.unusedVariables false
set_option linter.unusedSimpArgs false

abbrev OwnHt (w : World) (base : Nat) (A : Option Addr) (n c : Nat) (l : List Ht) : Prop := w.ownsRow base 33 4 (.slice A n c) n (l.flatMap htE)
theorem OwnHt.len {w : World} {B : Nat} {A : Option Addr} {n c : Nat} {l : List Ht} (h : OwnHt w B A n c l) : l.length = n := by
  have h1 := h.1
  rw [flat_length htL] at h1
  omega
theorem OwnHt.hts {w : World} {B : Nat} {A : Option Addr} {n c : Nat} {l : List Ht} (h : OwnHt w B A n c l) : Hts w A n c l := Rs.owned htL h.len h
theorem ownHt_nil (w : World) (B : Nat) : OwnHt w B none 0 0 [] := ⟨rfl, .inl ⟨rfl, rfl⟩⟩
/-- 'append(s, x)' of one hint. -/
theorem app_ht {w : World} {ty B : Nat} {A : Option Addr} {n c : Nat} {l : List Ht} (ho : OwnHt w B A n c l) {g t0 : Nat} {cs : Array Value} (x : Ht) (hw : Whole w g t0 cs) (hcs : cs = (htE x).toArray) (hn : n < 1000000) (hB : B ≤ w.heap.size) :
    ∃ A' c' w', (Builtin.append_ #[36, 36] ty #[.slice A n c, .slice (some ⟨g, 0, none⟩) 1 1]).run Try.prog w = .ok (.slice A' (n + 1) c') w' ∧ OwnHt w' B A' (n + 1) c' (l ++ [x]) ∧ w.grownBy w' (Value.slice A n c).ownBlock := by
  subst hcs
  obtain ⟨i0, hi0, hz0, hz1, hz2⟩ := info_of infoHt
  have hcell : ∀ (j : Nat) (u : Value), (htE x)[j]? = some u → w.cell? ((⟨g, 0, none⟩ : Addr).add j) = some u := fun j u hj => by
    rw [show (⟨g, 0, none⟩ : Addr).add j = ⟨g, j, none⟩ by unfold Addr.add; split <;> simp_all, hw.cell j]
    simpa using hj
  obtain ⟨v', w', hr, h2, h3, _, _⟩ := run_append_own_at (P := Try.prog) (w := w) B 36 ty 33 i0 (.agg #[.int .i64 0, .string ⟨#[]⟩, .int .i64 0, .int .i64 0]) 4 40 Try.underlying36 hi0 hz0 hz1 hz2 rfl (by omega) (.slice A n c) n (l.flatMap htE) ho ⟨g, 0, none⟩ 1 1 (htE x) rfl hcell (htE_one x) (by unfold maxLen; omega) (by omega) hB
  obtain ⟨A', c', rfl⟩ := slice_ownP h2
  exact ⟨A', c', w', hr, by unfold OwnHt; rw [flat_snoc]; exact h2, h3⟩
theorem hints_step {x : Fp} {l : List Fp} {i : Nat} (h : l[i]? = some x) : (l.take (i + 1)).map (fun p : Fp => p.2) = (l.take i).map (fun p : Fp => p.2) ++ [x.2] := by
  rw [List.take_add_one, h, List.map_append]
  rfl
set_option maxRecDepth 100000 in
set_option maxHeartbeats 4000000 in
theorem hints_any {A : Option Addr} {n c : Nat} {l : List Fp} (w : World) (h : Pls w A n c l) (hn : n < 1000000) :
    Calls Try.prog 15 #[.slice A n c] w fun e w' => ∃ A' c', e = .returned (.slice A' n c') ∧ OwnHt w' w.heap.size A' n c' (l.map fun p : Fp => p.2) ∧ Grows w w' := by
  have HX := Lib.hid (And.intro h h.len)
  clear h
  go_enter Try.func15, Try.ntmps15
  go_wp2_with (fail)
  go_loopw [3, 4] (fun vo vi wr => ∃ (i : Nat) (AW : Option Addr) (cW : Nat), i ≤ n ∧ vi = .int .i64 (i : Int) ∧ vo = .slice AW i cW ∧ Hid (OwnHt wr w.heap.size AW i cW ((l.take i).map fun p : Fp => p.2) ∧ Grows w wr)) (fun _ vi _ => n - (intOf vi).toNat)
  case atStart => exact ⟨0, none, 0, Nat.zero_le _, rfl, rfl, Lib.hid ⟨ownHt_nil _ _, Grows.refl _⟩⟩
  case round =>
    obtain ⟨i, AW, cW, hi, rfl, rfl, HT⟩ := hrel
    by_cases hlt : i < n
    · obtain ⟨ad, ⟨p0, ⟨q0, q1, q2, q3⟩⟩, rfl, hp, hbl, hc⟩ := Pls.at HX.out.1 hlt
      obtain ⟨c0, c1, c2, c3, c4⟩ := hc wr HT.out.2
      have hst := hints_step hp
      dsimp only at c0 c1 c2 c3 c4 hst
      have k0 : (0 : Int) ≤ (i : Int) := by omega
      have k1 : (i : Int) < (n : Int) := by omega
      have HWS := Lib.hid hst
      have hg1 := grows_alloc wr (.cells #[.int .i64 q0, .string ⟨q1.toArray⟩, .int .i64 q2, .int .i64 q3] 33)
      have hm1 := Whole.made wr 33 #[.int .i64 q0, .string ⟨q1.toArray⟩, .int .i64 q2, .int .i64 q3]
      obtain ⟨V1, hV1⟩ : ∃ V, wr.alloc (.cells #[.int .i64 q0, .string ⟨q1.toArray⟩, .int .i64 q2, .int .i64 q3] 33) = V := ⟨_, rfl⟩
      rw [hV1] at hg1 hm1
      obtain ⟨b1, hb1⟩ : ∃ b, wr.heap.size = b := ⟨_, rfl⟩
      rw [hb1] at hm1
      have hOW := owned_grow HT.out.1 hg1
      obtain ⟨A', c', V2, hrun, hown, hgb⟩ := app_ht (ty := 36) hOW ⟨q0, q1, q2, q3⟩ hm1 rfl (by omega) (Nat.le_trans HT.out.2.size hg1.size)
      have HRUN := Lib.hid hrun
      have HN := Lib.hid (And.intro hown (ownP_grows (Grows.trans HT.out.2 hg1) (Nat.le_refl _) hOW hgb))
      clear hp hbl hc hst hg1 hm1 hrun hown hgb hOW
      go_wp2_with (first
        | rw [hV1]
        | (at_builtin; refine list_execF rfl (exec_appF rfl rfl rfl HRUN.out) ?_; simp only [Act.put, List.setIfInBounds_toArray, List.set_cons_zero, List.set_cons_succ])
        | fail)
      go_roundw
      case rel => exact ⟨i + 1, A', c', by omega, by first | rfl | go_num, rfl, Lib.hid ⟨by rw [HWS.out]; exact HN.out.1, HN.out.2⟩⟩
      case measure => simp [intOf]; omega
    · obtain rfl : n = i := by omega
      have ht : l.take n = l := List.take_of_length_le (by have := HX.out.2; omega)
      rw [ht] at HT
      clear ht
      go_wp2_with (fail)
      go_ret
      exact ⟨AW, cW, rfl, HT.out.1, HT.out.2⟩
set_option maxHeartbeats 4000000 in
/-- hint. -/
theorem hint_any (k : List UInt8) (a : Int) (w : World) : Calls Try.prog 17 #[.string ⟨k.toArray⟩, .int .i64 a] w fun e w' => e = .returned (.agg #[.int .i64 3, .string ⟨k.toArray⟩, .int .i64 a, .int .i64 20]) ∧ Grows w w' := by
  have hm := Whole.made w 33 #[.int .i64 3, .string ⟨k.toArray⟩, .int .i64 a, .int .i64 20]
  have HG := Lib.hid (And.intro (grows_alloc w (.cells #[.int .i64 3, .string ⟨k.toArray⟩, .int .i64 a, .int .i64 20] 33)) hm)
  clear hm
  go_enter Try.func17, Try.ntmps17
  go_wp2_with (fail)
  refine bodyPost_ret (results_cell_row rfl _ _ w.heap.size 33 #[.int .i64 3, .string ⟨k.toArray⟩, .int .i64 a, .int .i64 20] (0, 0) _ rfl HG.out.2 Try.underlying33 rfl (by kernel_rfl)) rfl ?_
  exact ⟨rfl, HG.out.1⟩
end Go.Proofs.Ytnnkioekjobbmaa
