/-
  The walks of package span's Clip, right and Size, and of the answer's.
-/
import Derived.Test.YtfopiifchcaciaaSpInts
namespace Go.Proofs.Ytfopiifchcaciaa
open Go.RowKit
set_option linter.unusedSimpArgs false
set_option linter.unusedVariables false

set_option maxRecDepth 100000 in
set_option maxHeartbeats 4000000 in
theorem clip_any (size off n : Int) (w : World) (hs : -9223372036854775808 ≤ size ∧ size ≤ 9223372036854775807) (ho : -9223372036854775808 ≤ off ∧ off ≤ 9223372036854775807) (hn : -9223372036854775808 ≤ n ∧ n ≤ 9223372036854775807) :
    Calls Try.prog 18 #[.int .i64 size, .int .i64 off, .int .i64 n] w fun e w' => e = .returned (.tuple #[.int .i64 (clipP size off n).1, .int .i64 (clipP size off n).2.1, .bool (clipP size off n).2.2]) ∧ w = w' := by
  unfold clipP
  by_cases h1 : size < 0
  · rw [if_pos (.inl h1)]
    go_enter Try.func18, Try.ntmps18
    go_wp2
    go_ret3
    exact ⟨rfl, rfl⟩
  by_cases h2 : size > 1073741824
  · rw [if_pos (.inr (.inl h2))]
    go_enter Try.func18, Try.ntmps18
    go_wp2
    go_ret3
    exact ⟨rfl, rfl⟩
  by_cases h3 : off < 0
  · rw [if_pos (.inr (.inr (.inl h3)))]
    go_enter Try.func18, Try.ntmps18
    go_wp2
    go_ret3
    exact ⟨rfl, rfl⟩
  by_cases h4 : off > size
  · rw [if_pos (.inr (.inr (.inr (.inl h4))))]
    go_enter Try.func18, Try.ntmps18
    go_wp2
    go_ret3
    exact ⟨rfl, rfl⟩
  by_cases h5 : n < 0
  · rw [if_pos (.inr (.inr (.inr (.inr h5))))]
    go_enter Try.func18, Try.ntmps18
    go_wp2
    go_ret3
    exact ⟨rfl, rfl⟩
  rw [if_neg (by omega)]
  have k1 : IntKind.i64.wrap (size - off) = size - off := IntWalk.i64_in _ (by omega)
  have k2 : wrap64 (size - off) = size - off := IntWalk.wrap64_in _ (by omega)
  obtain ⟨m, hm⟩ : ∃ m, (if n < size - off then n else size - off) = m := ⟨_, rfl⟩
  have hm' : 0 ≤ m ∧ off + m ≤ 1073741824 := by
    rw [← hm]
    split <;> omega
  have k3 : IntKind.i64.wrap (off + m) = off + m := IntWalk.i64_in _ (by omega)
  have k4 : wrap64 (off + m) = off + m := IntWalk.wrap64_in _ (by omega)
  rw [hm]
  have HM := Lib.hid hm
  by_cases hlt : n < size - off
  · rw [if_pos hlt] at hm
    subst hm
    go_enter Try.func18, Try.ntmps18
    go_wp2
    go_ret3
    exact ⟨rfl, rfl⟩
  · rw [if_neg hlt] at hm
    have HM2 := Lib.hid hm
    clear hm
    go_enter Try.func18, Try.ntmps18
    go_wp2
    all_goals (go_ret3; have hmm := HM2.out)
    · subst hmm
      exact ⟨rfl, rfl⟩
    · obtain rfl : n = m := by omega
      exact ⟨rfl, rfl⟩

set_option maxRecDepth 100000 in
set_option maxHeartbeats 4000000 in
theorem ref_clip_any (size off n : Int) (w : World) (hs : -9223372036854775808 ≤ size ∧ size ≤ 9223372036854775807) (ho : -9223372036854775808 ≤ off ∧ off ≤ 9223372036854775807) (hn : -9223372036854775808 ≤ n ∧ n ≤ 9223372036854775807) :
    Calls Try.prog 19 #[.int .i64 size, .int .i64 off, .int .i64 n] w fun e w' => e = .returned (.tuple #[.int .i64 (clipP size off n).1, .int .i64 (clipP size off n).2.1, .bool (clipP size off n).2.2]) ∧ w = w' := by
  unfold clipP
  by_cases h1 : size < 0
  · rw [if_pos (.inl h1)]
    go_enter Try.func19, Try.ntmps19
    go_wp2
    go_ret3
    exact ⟨rfl, rfl⟩
  by_cases h2 : size > 1073741824
  · rw [if_pos (.inr (.inl h2))]
    go_enter Try.func19, Try.ntmps19
    go_wp2
    go_ret3
    exact ⟨rfl, rfl⟩
  by_cases h3 : off < 0
  · rw [if_pos (.inr (.inr (.inl h3)))]
    go_enter Try.func19, Try.ntmps19
    go_wp2
    go_ret3
    exact ⟨rfl, rfl⟩
  by_cases h4 : off > size
  · rw [if_pos (.inr (.inr (.inr (.inl h4))))]
    go_enter Try.func19, Try.ntmps19
    go_wp2
    go_ret3
    exact ⟨rfl, rfl⟩
  by_cases h5 : n < 0
  · rw [if_pos (.inr (.inr (.inr (.inr h5))))]
    go_enter Try.func19, Try.ntmps19
    go_wp2
    go_ret3
    exact ⟨rfl, rfl⟩
  rw [if_neg (by omega)]
  have k1 : IntKind.i64.wrap (size - off) = size - off := IntWalk.i64_in _ (by omega)
  have k2 : wrap64 (size - off) = size - off := IntWalk.wrap64_in _ (by omega)
  obtain ⟨m, hm⟩ : ∃ m, (if n < size - off then n else size - off) = m := ⟨_, rfl⟩
  have hm' : 0 ≤ m ∧ off + m ≤ 1073741824 := by
    rw [← hm]
    split <;> omega
  have k3 : IntKind.i64.wrap (off + m) = off + m := IntWalk.i64_in _ (by omega)
  have k4 : wrap64 (off + m) = off + m := IntWalk.wrap64_in _ (by omega)
  rw [hm]
  have HM := Lib.hid hm
  by_cases hlt : n < size - off
  · rw [if_pos hlt] at hm
    subst hm
    go_enter Try.func19, Try.ntmps19
    go_wp2
    go_ret3
    exact ⟨rfl, rfl⟩
  · rw [if_neg hlt] at hm
    have HM2 := Lib.hid hm
    clear hm
    go_enter Try.func19, Try.ntmps19
    go_wp2
    all_goals (go_ret3; have hmm := HM2.out)
    · subst hmm
      exact ⟨rfl, rfl⟩
    · obtain rfl : n = m := by omega
      exact ⟨rfl, rfl⟩

set_option maxRecDepth 100000 in
set_option maxHeartbeats 4000000 in
theorem right_any (A : Option Addr) (n c : Nat) (xs : List Int) (w : World) (hx : Ints w A n c xs) : Calls Try.prog 30 #[.slice A n c] w fun e w' => e = .returned (.bool (rightP xs)) ∧ w = w' := by
  obtain ⟨b, hb⟩ : ∃ b, rightP xs = b := ⟨_, rfl⟩
  rw [hb]
  have HB := Lib.hid hb
  have HX := Lib.hid hx
  clear hb hx
  by_cases hbig : 512 < n
  · have hf : b = false := by
      rw [← HB.out]
      cases hr : rightP xs
      · rfl
      · have := right_len hr; have := HX.out.len; omega
    have hbig' : (512 : Int) < (n : Int) := by omega
    have HF := Lib.hid hf
    clear hf
    go_enter Try.func30, Try.ntmps30
    go_wp2_with (fail)
    go_ret
    rw [HF.out]
    exact ⟨rfl, rfl⟩
  have hbig' : ¬ (512 : Int) < (n : Int) := by omega
  go_enter Try.func30, Try.ntmps30
  go_wp2_with (fail)
  go_loopw [10] (fun i wr => ∃ (j : Nat), j ≤ n ∧ i = .int .i64 (j : Int) ∧ Hid (∀ (k : Nat) (x : Int), k < j → xs[k]? = some x → 1 ≤ x ∧ x ≤ 4096) ∧ Hid (w = wr)) (fun i _ => n - (intOf i).toNat)
  case atStart => exact ⟨0, by omega, rfl, Lib.hid (fun k x hk => by omega), Lib.hid rfl⟩
  case round =>
    obtain ⟨j, hj, rfl, HT, HG⟩ := hrel
    obtain rfl := HG.out
    by_cases hlt : j < n
    · have hlt' : (j : Int) < (n : Int) := by omega
      obtain ⟨ad, x, rfl, hc1, hx1, hb1⟩ := HX.out.get hlt
      have HX1 := Lib.hid hx1
      clear hx1 hb1
      by_cases hs : x < 1
      · have HF := Lib.hid (show b = false from HB.out.symm.trans (right_not HX1.out (by omega)))
        go_wp2_with (fail)
        go_ret
        rw [HF.out]
        exact ⟨rfl, rfl⟩
      by_cases hg : 4096 < x
      · have HF := Lib.hid (show b = false from HB.out.symm.trans (right_not HX1.out (by omega)))
        go_wp2_with (fail)
        go_ret
        rw [HF.out]
        exact ⟨rfl, rfl⟩
      · have HN := Lib.hid (show ∀ (k : Nat) (y : Int), k < j + 1 → xs[k]? = some y → 1 ≤ y ∧ y ≤ 4096 from fun k y hk hy => by
          by_cases e : k = j
          · subst e
            rw [HX1.out] at hy
            injection hy with hy
            omega
          · exact HT.out k y (by omega) hy)
        go_wp2_with (fail)
        exact ⟨⟨j + 1, by omega, rfl, HN, Lib.hid (by first | rfl | trivial)⟩, by simp [intOf]; omega⟩
    · obtain rfl : j = n := by omega
      have HF := Lib.hid (show b = true from HB.out.symm.trans (right_all (by have := HX.out.len; omega) fun k x hx => HT.out k x (by
        rcases Nat.lt_or_ge k xs.length with h | h
        · have := HX.out.len; omega
        · rw [List.getElem?_eq_none h] at hx; cases hx) hx))
      go_wp2_with (fail)
      go_ret
      rw [HF.out]
      exact ⟨rfl, rfl⟩

set_option maxRecDepth 100000 in
set_option maxHeartbeats 4000000 in
theorem ref_right_any (A : Option Addr) (n c : Nat) (xs : List Int) (w : World) (hx : Ints w A n c xs) (hn : n ≤ 9223372036854775806) : Calls Try.prog 33 #[.slice A n c] w fun e w' => e = .returned (.bool (rightP xs)) ∧ w = w' := by
  obtain ⟨b, hb⟩ : ∃ b, rightP xs = b := ⟨_, rfl⟩
  rw [hb]
  have HB := Lib.hid hb
  have HX := Lib.hid hx
  clear hb hx
  go_enter Try.func33, Try.ntmps33
  go_wp2_with (fail)
  go_loopw [3] (fun i wr => ∃ (j : Nat), j ≤ n ∧ i = .int .i64 (j : Int) ∧ Hid (∀ (k : Nat) (x : Int), k < j → xs[k]? = some x → 1 ≤ x ∧ x ≤ 4096) ∧ Hid (w = wr)) (fun i _ => n - (intOf i).toNat)
  case atStart => exact ⟨0, by omega, rfl, Lib.hid (fun k x hk => by omega), Lib.hid rfl⟩
  case round =>
    obtain ⟨j, hj, rfl, HT, HG⟩ := hrel
    obtain rfl := HG.out
    by_cases hlt : j < n
    · have hlt' : (j : Int) < (n : Int) := by omega
      obtain ⟨ad, x, rfl, hc1, hx1, hb1⟩ := HX.out.get hlt
      have HX1 := Lib.hid hx1
      clear hx1 hb1
      by_cases hs : x < 1
      · have HF := Lib.hid (show b = false from HB.out.symm.trans (right_not HX1.out (by omega)))
        go_wp2_with (fail)
        go_ret
        rw [HF.out]
        exact ⟨rfl, rfl⟩
      by_cases hg : 4096 < x
      · have HF := Lib.hid (show b = false from HB.out.symm.trans (right_not HX1.out (by omega)))
        go_wp2_with (fail)
        go_ret
        rw [HF.out]
        exact ⟨rfl, rfl⟩
      · have HN := Lib.hid (show ∀ (k : Nat) (y : Int), k < j + 1 → xs[k]? = some y → 1 ≤ y ∧ y ≤ 4096 from fun k y hk hy => by
          by_cases e : k = j
          · subst e
            rw [HX1.out] at hy
            injection hy with hy
            omega
          · exact HT.out k y (by omega) hy)
        go_wp2_with (fail)
        exact ⟨⟨j + 1, by omega, rfl, HN, Lib.hid (by first | rfl | trivial)⟩, by simp [intOf]; omega⟩
    · obtain rfl : j = n := by omega
      have hb2 : b = decide ((j : Int) ≤ 512) := by
        rw [← HB.out]
        by_cases hl : (j : Int) ≤ 512
        · rw [decide_eq_true hl]
          exact right_all (by have := HX.out.len; omega) fun k x hx => HT.out k x (by
            rcases Nat.lt_or_ge k xs.length with h | h
            · have := HX.out.len; omega
            · rw [List.getElem?_eq_none h] at hx; cases hx) hx
        · rw [decide_eq_false hl]
          cases hr : rightP xs
          · rfl
          · have := right_len hr; have := HX.out.len; omega
      have HF := Lib.hid hb2
      clear hb2
      go_wp2_with (fail)
      go_ret
      rw [HF.out]
      exact ⟨rfl, rfl⟩

set_option maxRecDepth 100000 in
set_option maxHeartbeats 4000000 in
theorem size_any (A : Option Addr) (n c : Nat) (xs : List Int) (w : World) (hx : Ints w A n c xs) : Calls Try.prog 23 #[.slice A n c] w fun e w' => e = .returned (.int .i64 (sizeP xs)) ∧ w = w' := by
  obtain ⟨z, hz⟩ : ∃ z, sizeP xs = z := ⟨_, rfl⟩
  rw [hz]
  have HZ := Lib.hid hz
  have HX := Lib.hid hx
  clear hz hx
  go_enter Try.func23, Try.ntmps23
  go_wp2_with (fail)
  refine (right_any A n c xs w HX.out).mono ?_
  rintro e w1 ⟨rfl, rfl⟩
  cases hr : rightP xs with
  | false =>
    have HF := Lib.hid (show z = 0 by rw [← HZ.out]; unfold sizeP; rw [hr]; rfl)
    clear hr
    go_wp2_with (fail)
    go_ret
    rw [HF.out]
    exact ⟨rfl, rfl⟩
  | true =>
    have HR := Lib.hid hr
    have hn : n ≤ 512 := by have := right_len hr; have := HX.out.len; omega
    clear hr
    go_wp2_with (fail)
    go_loopw [3, 11] (fun s i wr => ∃ (j : Nat) (t : Int), j ≤ n ∧ i = .int .i64 (j : Int) ∧ s = .int .i64 t ∧ Hid (t = tot (xs.take j)) ∧ Hid (w = wr)) (fun _ i _ => n - (intOf i).toNat)
    case atStart => exact ⟨0, 0, by omega, rfl, rfl, Lib.hid rfl, Lib.hid rfl⟩
    case round =>
      obtain ⟨j, t, hj, rfl, rfl, HT, HG⟩ := hrel
      obtain rfl := HG.out
      by_cases hlt : j < n
      · have hlt' : (j : Int) < (n : Int) := by omega
        obtain ⟨ad, x, rfl, hc1, hx1, hb1⟩ := HX.out.get hlt
        have HN := Lib.hid (tot_next xs j x hx1)
        have hb2 := right_get HR.out hx1
        have hb3 := right_tot HR.out j
        rw [← HT.out] at hb3
        have k1 : IntKind.i64.wrap (t + x) = t + x := IntWalk.i64_in _ (by omega)
        have k2 : wrap64 (t + x) = t + x := IntWalk.wrap64_in _ (by omega)
        clear hx1 hb1 hb2 hb3
        go_wp2_with (fail)
        exact ⟨⟨j + 1, t + x, by omega, rfl, rfl, Lib.hid (by rw [HN.out, HT.out]), Lib.hid (by first | rfl | trivial)⟩, by simp [intOf]; omega⟩
      · obtain rfl : j = n := by omega
        have HF := Lib.hid (show z = t by
          rw [← HZ.out, HT.out, List.take_of_length_le (by have := HX.out.len; omega)]
          unfold sizeP
          rw [if_pos HR.out])
        go_wp2_with (fail)
        go_ret
        rw [HF.out]
        exact ⟨rfl, rfl⟩

set_option maxRecDepth 100000 in
set_option maxHeartbeats 4000000 in
theorem ref_size_any (A : Option Addr) (n c : Nat) (xs : List Int) (w : World) (hx : Ints w A n c xs) (hn : n ≤ 9223372036854775806) : Calls Try.prog 24 #[.slice A n c] w fun e w' => e = .returned (.int .i64 (sizeP xs)) ∧ w = w' := by
  obtain ⟨z, hz⟩ : ∃ z, sizeP xs = z := ⟨_, rfl⟩
  rw [hz]
  have HZ := Lib.hid hz
  have HX := Lib.hid hx
  have HR := Lib.hid (ref_right_any A n c xs w hx hn)
  clear hz hx
  go_enter Try.func24, Try.ntmps24
  go_wp2_with (fail)
  go_loopw [3, 4] (fun s i wr => ∃ (j : Nat) (t : Int), j ≤ n ∧ i = .int .i64 (j : Int) ∧ s = .int .i64 t ∧ Hid (t = tot (xs.take j)) ∧ Hid (j = 0 ∨ rightP xs = true) ∧ Hid (w = wr)) (fun _ i _ => n - (intOf i).toNat)
  case atStart => exact ⟨0, 0, by omega, rfl, rfl, Lib.hid rfl, Lib.hid (.inl rfl), Lib.hid rfl⟩
  case round =>
    obtain ⟨j, t, hj, rfl, rfl, HT, HJ, HG⟩ := hrel
    obtain rfl := HG.out
    by_cases hlt : j < n
    · have hlt' : (j : Int) < (n : Int) := by omega
      obtain ⟨ad, x, rfl, hc1, hx1, hb1⟩ := HX.out.get hlt
      have HX1 := Lib.hid (And.intro hx1 hb1)
      clear hx1 hb1
      go_wp2_with (fail)
      refine HR.out.mono ?_
      rintro e w1 ⟨rfl, rfl⟩
      cases hr : rightP xs with
      | false =>
        have HF := Lib.hid (show z = t by
          rcases HJ.out with h | h
          · rw [← HZ.out, HT.out, h]; unfold sizeP; rw [hr]; rfl
          · rw [hr] at h; cases h)
        clear hr
        go_wp2_with (fail)
        go_ret
        rw [HF.out]
        exact ⟨rfl, rfl⟩
      | true =>
        have HRR := Lib.hid hr
        have HN := Lib.hid (tot_next xs j x HX1.out.1)
        have hb2 := right_get hr HX1.out.1
        have hb3 := right_tot hr j
        rw [← HT.out] at hb3
        have k1 : IntKind.i64.wrap (t + x) = t + x := IntWalk.i64_in _ (by omega)
        have k2 : wrap64 (t + x) = t + x := IntWalk.wrap64_in _ (by omega)
        clear hb2 hb3 hr
        go_wp2_with (fail)
        exact ⟨⟨j + 1, t + x, by omega, rfl, rfl, Lib.hid (by rw [HN.out, HT.out]), Lib.hid (.inr HRR.out), Lib.hid (by first | rfl | trivial)⟩, by simp [intOf]; omega⟩
    · obtain rfl : j = n := by omega
      have HF := Lib.hid (show z = t by
        rw [← HZ.out, HT.out, List.take_of_length_le (by have := HX.out.len; omega)]
        unfold sizeP
        rcases HJ.out with h | h
        · have : xs = [] := List.eq_nil_of_length_eq_zero (by have := HX.out.len; omega)
          subst this
          split <;> rfl
        · rw [if_pos h])
      have hlt' : ¬ (j : Int) < (j : Int) := by omega
      go_wp2_with (fail)
      go_ret
      rw [HF.out]
      exact ⟨rfl, rfl⟩
end Go.Proofs.Ytfopiifchcaciaa
