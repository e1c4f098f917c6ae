/-
  The walk of name's Segments.
-/
import Derived.Test.YtfopiifchcaciaaNmInts
import Derived.Test.YtfopiifchcaciaaNmParse
namespace Go.Proofs.Ytfopiifchcaciaa
open Go.RowKit
set_option linter.unusedSimpArgs false
set_option linter.unusedVariables false

/-- A slice of strings, as functions are handed it. -/
structure Strs (w : World) (A : Option Addr) (n c : Nat) (ls : List (List UInt8)) : Prop where
  row : Row w w.heap.size A n (ls.map strV)
  cap : n ≤ c
  bare : A = none → c = 0
  sizes : ∀ s ∈ ls, s.length ≤ 9223372036854775807
theorem Strs.len {w : World} {A : Option Addr} {n c : Nat} {ls : List (List UInt8)} (h : Strs w A n c ls) : ls.length = n := by have := h.row.len; simpa using this
theorem Strs.grow {w w' : World} {A : Option Addr} {n c : Nat} {ls : List (List UInt8)} (hg : Grows w w') (h : Strs w A n c ls) : Strs w' A n c ls := ⟨hg.row h.row, h.cap, h.bare, h.sizes⟩
theorem Strs.get {w : World} {A : Option Addr} {n c : Nat} {ls : List (List UInt8)} (h : Strs w A n c ls) {j : Nat} (hj : j < n) :
    ∃ ad l, A = some ad ∧ w.cell? (ad.add j) = some (.string ⟨l.toArray⟩) ∧ ls[j]? = some l ∧ l.length ≤ 9223372036854775807 := by
  have hl := h.len
  have hx : ls[j]? = some ls[j] := List.getElem?_eq_getElem (by omega)
  obtain ⟨ad, hA, _, hc⟩ := h.row.spot j (strV ls[j]) (by rw [List.getElem?_map, hx]; rfl)
  exact ⟨ad, ls[j], hA, hc, hx, h.sizes _ (List.getElem_mem _)⟩
theorem nums_take (ls : List (List UInt8)) (j : Nat) (l : List UInt8) (h : ls[j]? = some l) : numsP (ls.take (j + 1)) = numsP (ls.take j) ++ (segP l).toList := by
  have hj : j < ls.length := by
    rcases Nat.lt_or_ge j ls.length with h' | h'
    · exact h'
    · rw [List.getElem?_eq_none h'] at h; cases h
  rw [List.take_succ_eq_append_getElem hj, nums_append]
  rw [List.getElem?_eq_getElem hj, Option.some.injEq] at h
  rw [h]
  unfold numsP
  cases hs : segP l <;> simp [hs]
theorem seg_trip (l : List UInt8) (k n : Int) (is : Bool) (h : trip (parseP l) = (k, n, is)) : segP l = if is = true ∧ k = 1 then some n else none := by
  unfold segP
  cases hp : parseP l with
  | none =>
    rw [hp] at h
    injection h with _ h
    injection h with _ h
    subst h
    rfl
  | some p =>
    obtain ⟨k', n'⟩ := p
    rw [hp] at h
    injection h with h1 h
    injection h with h2 h3
    subst h1 h2 h3
    simp

set_option maxRecDepth 100000 in
set_option maxHeartbeats 4000000 in
theorem segs_any (A : Option Addr) (n c : Nat) (ls : List (List UInt8)) (w : World) (hs : Strs w A n c ls) (hn : n ≤ 1000000) :
    Calls Try.prog 15 #[.slice A n c] w fun e w' => ∃ A' c', e = .returned (.slice A' (setP (numsP ls)).length c') ∧ w'.ownsRow w.heap.size 3 1 (.slice A' (setP (numsP ls)).length c') (setP (numsP ls)).length ((setP (numsP ls)).map intV) ∧ Below w.heap.size w w' := by
  have HS := Lib.hid hs
  clear hs
  go_enter Try.func15, Try.ntmps15
  go_wp2_with (fail)
  go_loopw [3, 11] (fun o i wr => ∃ (LA : Option Addr) (lc m j : Nat) (xs : List Int), j ≤ n ∧ m ≤ j ∧ i = .int .i64 (j : Int) ∧ o = .slice LA m lc ∧ Hid (xs = numsP (ls.take j)) ∧ Hid (wr.ownsRow w.heap.size 3 1 (.slice LA m lc) m (xs.map intV)) ∧ Hid (Grows w wr)) (fun _ i _ => n - (intOf i).toNat)
  case atStart => exact ⟨none, 0, 0, 0, [], by omega, by omega, rfl, rfl, Lib.hid rfl, Lib.hid (World.ownsRow_nil _ _ _ _), Lib.hid (Grows.refl _)⟩
  case round =>
    obtain ⟨LA, lc, m, j, xs, hj, hm, rfl, rfl, HX, HO, HG⟩ := hrel
    by_cases hlt : j < n
    · obtain ⟨ad, l, rfl, hcell, hget, hll⟩ := (HS.out.grow HG.out).get hlt
      have hlt' : (j : Int) < (n : Int) := by omega
      have HGET := Lib.hid hget
      have HP := Lib.hid (parse_any l hll wr)
      clear hget
      go_wp2_with (fail)
      refine HP.out.mono ?_
      rintro e w2 ⟨rfl, hb⟩
      have HG2 := Lib.hid hb
      clear hb
      unfold tripV
      obtain ⟨⟨k, nn, is⟩, ht⟩ : ∃ t, trip (parseP l) = t := ⟨_, rfl⟩
      have HT := Lib.hid ht
      rw [ht]
      dsimp only
      clear ht
      have hseg := seg_trip l k nn is HT.out
      have hnx := nums_take ls j l HGET.out
      rw [hseg, ← HX.out] at hnx
      cases is with
      | false =>
        rw [if_neg (by simp)] at hnx
        have HNX := Lib.hid hnx
        clear hseg hnx
        go_wp2_with (fail)
        exact ⟨⟨LA, lc, m, j + 1, xs, by omega, by omega, rfl, rfl, Lib.hid (by rw [HNX.out]; simp), Lib.hid (owned_grow HO.out HG2.out), Lib.hid (Grows.trans HG.out HG2.out)⟩, by simp [intOf]; omega⟩
      | true =>
        by_cases hk : k = 1
        · rw [if_pos ⟨rfl, hk⟩] at hnx
          have HNX := Lib.hid hnx
          subst hk
          clear hseg hnx
          have hm1 := Whole.made w2 3 #[.int .i64 nn]
          have HR := Lib.hid (Whole.row hm1 ([nn].map intV) 1 rfl rfl)
          have HO2 := Lib.hid (owned_grow HO.out (Grows.trans HG2.out (grows_alloc w2 (.cells #[.int .i64 nn] 3))))
          clear hm1
          go_wp2_with (at_builtin
                       refine list_app_ints rfl (.tmp 26) (.tmp 28) rfl (base := w.heap.size) rfl HO2.out (A := some ⟨w2.heap.size, 0, none⟩) (m := 1) (c := 1) rfl HR.out (fun h => by cases h) (m + 1) rfl (by omega) (by have := HG.out.size; have := HG2.out.size; simp; omega) ?_
                       intro A3 c3 w3 ho3 _ hb3
                       have HO3 := Lib.hid ho3
                       have HB3 := Lib.hid hb3
                       clear ho3 hb3)
          exact ⟨⟨A3, c3, m + 1, j + 1, xs ++ [nn], by omega, by omega, rfl, rfl, Lib.hid (by rw [HNX.out]; rfl), HO3, Lib.hid (Below.trans (show Below w.heap.size w _ from Grows.trans (Grows.trans HG.out HG2.out) (grows_alloc _ _)) HB3.out)⟩, by simp [intOf]; omega⟩
        · rw [if_neg (fun h => hk h.2)] at hnx
          have HNX := Lib.hid hnx
          have hkf : (k == 1) = false := by rw [beq_eq_false_iff_ne]; exact hk
          clear hseg hnx hk
          go_wp2_with (fail)
          exact ⟨⟨LA, lc, m, j + 1, xs, by omega, by omega, rfl, rfl, Lib.hid (by rw [HNX.out]; simp), Lib.hid (owned_grow HO.out HG2.out), Lib.hid (Grows.trans HG.out HG2.out)⟩, by simp [intOf]; omega⟩
    · obtain rfl : j = n := by omega
      have hx := HX.out
      rw [List.take_of_length_le (by rw [HS.out.len]; exact Nat.le_refl _)] at hx
      subst hx
      have HSO := Lib.hid (sort_own w.heap.size LA m lc _ wr HO.out HG.out.size (by omega))
      go_wp2_with (fail)
      refine HSO.out.mono ?_
      rintro e w2 ⟨rfl, ho2, hb2⟩
      have HB2 := Lib.hid (Below.trans (show Below w.heap.size w _ from HG.out) hb2)
      have HCO := Lib.hid (compact_own w.heap.size LA m lc _ w2 ho2 HB2.out.size (by omega))
      clear ho2 hb2
      go_wp2_with (fail)
      refine HCO.out.mono ?_
      rintro e w3 ⟨rfl, ho3, hb3⟩
      have HO3 := Lib.hid ho3
      have HB3 := Lib.hid (Below.trans HB2.out hb3)
      clear ho3 hb3
      go_wp2_with (fail)
      go_ret
      exact ⟨_, _, rfl, HO3.out, HB3.out⟩
end Go.Proofs.Ytfopiifchcaciaa
