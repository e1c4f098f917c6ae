/-
  Live, the program's and the document's answer.
-/
import Derived.Test.YtnnkioekjobbmaaFdPl
import Derived.LoopTactic
namespace Go.Proofs.Ytnnkioekjobbmaa
open Go.RowKit
set_option linter.unusedVariables false
set_option linter.unusedSimpArgs false

def liveP (l : List Fp) : List Fp := l.filter fun p => decide (p.2.kind ≠ 4)
theorem live_step {x : Fp} {l : List Fp} {i : Nat} (h : l[i]? = some x) : liveP (l.take (i + 1)) = if x.2.kind = 4 then liveP (l.take i) else liveP (l.take i) ++ [x] := by
  unfold liveP
  rw [List.take_add_one, h, List.filter_append]
  by_cases e : x.2.kind = 4
  · simp [e]
  · simp [e]
theorem live_few {l : List Fp} {i : Nat} : (liveP (l.take i)).length ≤ i := by
  have h1 : (liveP (l.take i)).length ≤ (l.take i).length := List.length_filter_le _ _
  rw [List.length_take] at h1
  omega
set_option maxRecDepth 100000 in
set_option maxHeartbeats 4000000 in
theorem live_any {A : Option Addr} {n c : Nat} {l : List Fp} (w : World) (h : Pls w A n c l) (hn : n < 1000000) :
    Calls Try.prog 13 #[.slice A n c] w fun e w' => ∃ A' n' c', e = .returned (.slice A' n' c') ∧ OwnPl w' w.heap.size A' n' c' (liveP l) ∧ Grows w w' := by
  have HX := Lib.hid (And.intro h h.len)
  clear h
  go_enter Try.func13, Try.ntmps13
  go_wp2_with (fail)
  go_loopw [3, 5, 8] (fun vo _ vi wr => ∃ (i : Nat) (AW : Option Addr) (nW cW : Nat), i ≤ n ∧ vi = .int .i64 (i : Int) ∧ vo = .slice AW nW cW ∧ Hid (OwnPl wr w.heap.size AW nW cW (liveP (l.take i)) ∧ Grows w wr)) (fun _ _ vi _ => n - (intOf vi).toNat)
  case atStart => exact ⟨0, none, 0, 0, Nat.zero_le _, rfl, rfl, Lib.hid ⟨ownPl_nil _ _, Grows.refl _⟩⟩
  case round =>
    obtain ⟨i, AW, nW, cW, hi, rfl, rfl, HT⟩ := hrel
    by_cases hlt : i < n
    · obtain ⟨ad, ⟨p0, ⟨q0, q1, q2, q3⟩⟩, rfl, hp, hbl, hc⟩ := Pls.at HX.out.1 hlt
      obtain ⟨c0, c1, c2, c3, c4⟩ := hc wr HT.out.2
      have hst := live_step hp
      dsimp only at c0 c1 c2 c3 c4 hst
      have k0 : (0 : Int) ≤ (i : Int) := by omega
      have k1 : (i : Int) < (n : Int) := by omega
      have hfew : nW < 1000000 := by
        have h1 := HT.out.1.len
        have h2 := live_few (l := l) (i := i)
        omega
      clear hp hbl hc
      by_cases h4 : q0 = 4
      · have HWS := Lib.hid (show liveP (l.take (i + 1)) = liveP (l.take i) from by rw [hst, if_pos h4])
        subst h4
        clear hst hfew
        have hg0 := grows_alloc wr (.cells #[.int .i64 p0, .int .i64 4, .string ⟨q1.toArray⟩, .int .i64 q2, .int .i64 q3] 35)
        have hm0 := Whole.made wr 35 #[.int .i64 p0, .int .i64 4, .string ⟨q1.toArray⟩, .int .i64 q2, .int .i64 q3]
        obtain ⟨V0, hV0⟩ : ∃ V, wr.alloc (.cells #[.int .i64 p0, .int .i64 4, .string ⟨q1.toArray⟩, .int .i64 q2, .int .i64 q3] 35) = V := ⟨_, rfl⟩
        rw [hV0] at hg0 hm0
        have hz0 : V0.heap.size = wr.heap.size + 1 := by rw [← hV0, World.size_alloc]
        obtain ⟨b0, hb0⟩ : ∃ b, wr.heap.size = b := ⟨_, rfl⟩
        rw [hb0] at hm0
        have e0 := hm0.cell 0
        have e1 := hm0.cell 1
        have e2 := hm0.cell 2
        have e3 := hm0.cell 3
        have e4 := hm0.cell 4
        simp only [List.getElem?_toArray, List.getElem?_cons_zero, List.getElem?_cons_succ] at e0 e1 e2 e3 e4
        have HG0 := Lib.hid hg0
        clear hg0 hm0 hz0
        go_wp2_with (first | rw [hV0] | fail)
        go_roundw
        case rel => exact ⟨i + 1, AW, nW, cW, by omega, by first | rfl | go_num, rfl, Lib.hid ⟨by rw [HWS.out]; exact owned_grow HT.out.1 HG0.out, Grows.trans HT.out.2 HG0.out⟩⟩
        case measure => simp [intOf]; omega
      · have HWS := Lib.hid (show liveP (l.take (i + 1)) = liveP (l.take i) ++ [(p0, ⟨q0, q1, q2, q3⟩)] from by rw [hst, if_neg h4])
        have h4b : (q0 == 4) = false := by simpa using h4
        clear hst
        have hg0 := grows_alloc wr (.cells #[.int .i64 p0, .int .i64 q0, .string ⟨q1.toArray⟩, .int .i64 q2, .int .i64 q3] 35)
        have hm0 := Whole.made wr 35 #[.int .i64 p0, .int .i64 q0, .string ⟨q1.toArray⟩, .int .i64 q2, .int .i64 q3]
        obtain ⟨V0, hV0⟩ : ∃ V, wr.alloc (.cells #[.int .i64 p0, .int .i64 q0, .string ⟨q1.toArray⟩, .int .i64 q2, .int .i64 q3] 35) = V := ⟨_, rfl⟩
        rw [hV0] at hg0 hm0
        have hz0 : V0.heap.size = wr.heap.size + 1 := by rw [← hV0, World.size_alloc]
        obtain ⟨b0, hb0⟩ : ∃ b, wr.heap.size = b := ⟨_, rfl⟩
        rw [hb0] at hm0
        have e0 := hm0.cell 0
        have e1 := hm0.cell 1
        have e2 := hm0.cell 2
        have e3 := hm0.cell 3
        have e4 := hm0.cell 4
        simp only [List.getElem?_toArray, List.getElem?_cons_zero, List.getElem?_cons_succ] at e0 e1 e2 e3 e4
        have hgw : Grows wr V0 := hg0
        have hg1 := grows_alloc V0 (.cells #[.int .i64 p0, .int .i64 q0, .string ⟨q1.toArray⟩, .int .i64 q2, .int .i64 q3] 35)
        have hm1 := Whole.made V0 35 #[.int .i64 p0, .int .i64 q0, .string ⟨q1.toArray⟩, .int .i64 q2, .int .i64 q3]
        obtain ⟨V1, hV1⟩ : ∃ V, V0.alloc (.cells #[.int .i64 p0, .int .i64 q0, .string ⟨q1.toArray⟩, .int .i64 q2, .int .i64 q3] 35) = V := ⟨_, rfl⟩
        rw [hV1] at hg1 hm1
        have hz1 : V1.heap.size = V0.heap.size + 1 := by rw [← hV1, World.size_alloc]
        obtain ⟨b1, hb1⟩ : ∃ b, V0.heap.size = b := ⟨_, rfl⟩
        rw [hb1] at hm1
        have hOW := owned_grow (owned_grow HT.out.1 hgw) hg1
        have hsz := Nat.le_trans HT.out.2.size (Nat.le_trans hgw.size hg1.size)
        obtain ⟨A', c', V2, hrun, hown, hgb, _⟩ := app_pl (ty := 26) hOW (p0, ⟨q0, q1, q2, q3⟩) hm1 rfl hfew hsz
        have HRUN := Lib.hid hrun
        have HN := Lib.hid (And.intro hown (ownP_grows (Grows.trans (Grows.trans HT.out.2 hgw) hg1) (Nat.le_refl _) hOW hgb))
        clear hgw hg1 hm1 hz1 hrun hown hgb hfew hOW hsz hg0 hm0 hz0
        go_wp2_with (first
          | rw [hV0]
          | rw [hV1]
          | (at_builtin; refine list_execF rfl (exec_appF rfl rfl rfl HRUN.out) ?_; simp only [Act.put, List.setIfInBounds_toArray, List.set_cons_zero, List.set_cons_succ])
          | fail)
        go_roundw
        case rel => exact ⟨i + 1, A', nW + 1, c', by omega, by first | rfl | go_num, rfl, Lib.hid ⟨by rw [HWS.out]; exact HN.out.1, HN.out.2⟩⟩
        case measure => simp [intOf]; omega
    · obtain rfl : i = n := by omega
      have ht : l.take i = l := List.take_of_length_le (by have := HX.out.2; omega)
      rw [ht] at HT
      clear ht
      go_wp2_with (fail)
      go_ret
      exact ⟨AW, nW, cW, rfl, HT.out.1, HT.out.2⟩
set_option maxRecDepth 100000 in
set_option maxHeartbeats 4000000 in
theorem rlive_any {A : Option Addr} {n c : Nat} {l : List Fp} (w : World) (h : Pls w A n c l) (hn : n < 1000000) :
    Calls Try.prog 14 #[.slice A n c] w fun e w' => ∃ A' n' c', e = .returned (.slice A' n' c') ∧ OwnPl w' w.heap.size A' n' c' (liveP l) ∧ Grows w w' := by
  have HX := Lib.hid (And.intro h h.len)
  clear h
  go_enter Try.func14, Try.ntmps14
  go_wp2_with (fail)
  go_loopw [3, 4] (fun vo vi wr => ∃ (i : Nat) (AW : Option Addr) (nW cW : Nat), i ≤ n ∧ vi = .int .i64 (i : Int) ∧ vo = .slice AW nW cW ∧ Hid (OwnPl wr w.heap.size AW nW cW (liveP (l.take i)) ∧ Grows w wr)) (fun _ vi _ => n - (intOf vi).toNat)
  case atStart => exact ⟨0, none, 0, 0, Nat.zero_le _, rfl, rfl, Lib.hid ⟨ownPl_nil _ _, Grows.refl _⟩⟩
  case round =>
    obtain ⟨i, AW, nW, cW, hi, rfl, rfl, HT⟩ := hrel
    by_cases hlt : i < n
    · obtain ⟨ad, ⟨p0, ⟨q0, q1, q2, q3⟩⟩, rfl, hp, hbl, hc⟩ := Pls.at HX.out.1 hlt
      obtain ⟨c0, c1, c2, c3, c4⟩ := hc wr HT.out.2
      have hst := live_step hp
      dsimp only at c0 c1 c2 c3 c4 hst
      have k0 : (0 : Int) ≤ (i : Int) := by omega
      have k1 : (i : Int) < (n : Int) := by omega
      have hfew : nW < 1000000 := by
        have h1 := HT.out.1.len
        have h2 := live_few (l := l) (i := i)
        omega
      clear hp hbl hc
      by_cases h4 : q0 = 4
      · have HWS := Lib.hid (show liveP (l.take (i + 1)) = liveP (l.take i) from by rw [hst, if_pos h4])
        subst h4
        clear hst hfew
        go_wp2_with (first | fail)
        go_roundw
        case rel => exact ⟨i + 1, AW, nW, cW, by omega, by first | rfl | go_num, rfl, Lib.hid ⟨by rw [HWS.out]; exact HT.out.1, HT.out.2⟩⟩
        case measure => simp [intOf]; omega
      · have HWS := Lib.hid (show liveP (l.take (i + 1)) = liveP (l.take i) ++ [(p0, ⟨q0, q1, q2, q3⟩)] from by rw [hst, if_neg h4])
        have h4b : (q0 == 4) = false := by simpa using h4
        clear hst
        have hgw : Grows wr wr := Grows.refl _
        have hg1 := grows_alloc wr (.cells #[.int .i64 p0, .int .i64 q0, .string ⟨q1.toArray⟩, .int .i64 q2, .int .i64 q3] 35)
        have hm1 := Whole.made wr 35 #[.int .i64 p0, .int .i64 q0, .string ⟨q1.toArray⟩, .int .i64 q2, .int .i64 q3]
        obtain ⟨V1, hV1⟩ : ∃ V, wr.alloc (.cells #[.int .i64 p0, .int .i64 q0, .string ⟨q1.toArray⟩, .int .i64 q2, .int .i64 q3] 35) = V := ⟨_, rfl⟩
        rw [hV1] at hg1 hm1
        have hz1 : V1.heap.size = wr.heap.size + 1 := by rw [← hV1, World.size_alloc]
        obtain ⟨b1, hb1⟩ : ∃ b, wr.heap.size = b := ⟨_, rfl⟩
        rw [hb1] at hm1
        have hOW := owned_grow (owned_grow HT.out.1 hgw) hg1
        have hsz := Nat.le_trans HT.out.2.size (Nat.le_trans hgw.size hg1.size)
        obtain ⟨A', c', V2, hrun, hown, hgb, _⟩ := app_pl (ty := 26) hOW (p0, ⟨q0, q1, q2, q3⟩) hm1 rfl hfew hsz
        have HRUN := Lib.hid hrun
        have HN := Lib.hid (And.intro hown (ownP_grows (Grows.trans (Grows.trans HT.out.2 hgw) hg1) (Nat.le_refl _) hOW hgb))
        clear hgw hg1 hm1 hz1 hrun hown hgb hfew hOW hsz 
        go_wp2_with (first
          | rw [hV1]
          | (at_builtin; refine list_execF rfl (exec_appF rfl rfl rfl HRUN.out) ?_; simp only [Act.put, List.setIfInBounds_toArray, List.set_cons_zero, List.set_cons_succ])
          | fail)
        go_roundw
        case rel => exact ⟨i + 1, A', nW + 1, c', by omega, by first | rfl | go_num, rfl, Lib.hid ⟨by rw [HWS.out]; exact HN.out.1, HN.out.2⟩⟩
        case measure => simp [intOf]; omega
    · obtain rfl : i = n := by omega
      have ht : l.take i = l := List.take_of_length_le (by have := HX.out.2; omega)
      rw [ht] at HT
      clear ht
      go_wp2_with (fail)
      go_ret
      exact ⟨AW, nW, cW, rfl, HT.out.1, HT.out.2⟩
end Go.Proofs.Ytnnkioekjobbmaa
