/-
  Texts that the statements' proofs lean on, one behind the other.
-/
import Derived.Test.YtdjlhdeejpndcaaMD
import Derived.Test.YtdjlhdeejpndcaaHtMem
import Derived.Test.YtdjlhdeejpndcaaHtRight
import Derived.Test.YtdjlhdeejpndcaaPut
import Derived.Test.YtdjlhdeejpndcaaMark
import Derived.Test.YtdjlhdeejpndcaaOn
import Derived.Test.YtdjlhdeejpndcaaMY
import Derived.Test.YtdjlhdeejpndcaaFactsTail
/-
  The walks of hint's number and numberOf.
-/
namespace Go.Proofs.Ytdjlhdeejpndcaa
open Go.RowKit
set_option linter.unusedSimpArgs false
set_option linter.unusedVariables false

set_option maxRecDepth 100000 in
set_option maxHeartbeats 4000000 in
theorem hnumberOf_any (A : Option Addr) (m c : Nat) (bs : List UInt8) (w : World) (h : Sl w A m c bs) (hm : m ≤ 6) :
    Calls Try.prog 49 #[.slice A m c] w fun e w' => e = .returned (.int .i64 (valB bs)) ∧ w = w' := by
  have hlen := Bytes.len h.bytes
  have HL := Lib.hid h
  clear h
  go_enter Try.func49, Try.ntmps49
  go_wp2_with (fail)
  go_loop [3, 8] (fun n i => ∃ j : Nat, j ≤ m ∧ i = .int .i64 (j : Nat) ∧ n = .int .i64 (valB (bs.take j))) (fun _ i => m - (intOf i).toNat)
  case atStart => exact ⟨0, by omega, rfl, rfl⟩
  case round =>
    obtain ⟨j, hj, rfl, rfl⟩ := hrel
    by_cases hlt : j < m
    · obtain ⟨ad, rfl, _, hc⟩ := HL.out.bytes.spot hlt
      have hnx := valB_next bs j (by omega)
      have hsm := valB_small (bs.take j) (by rw [List.length_take]; omega)
      have hsm2 := valB_small (bs.take (j + 1)) (by rw [List.length_take]; omega)
      have hb := (bs.getD j 0).toNat_lt
      generalize bs.getD j 0 = b at *
      generalize valB (bs.take j) = v at *
      have HX := Lib.hid hnx
      have k0 : (0 : Int) ≤ (j : Int) := by omega
      have k1 : (j : Int) < (m : Int) := by omega
      clear hnx
      go_wp2_with (fail)
      go_round
      case rel => exact ⟨j + 1, by omega, by go_num, by rw [HX.out, or_byte v _ (by omega) (by have := hsm2; rw [HX.out] at this; omega) hb]; congr 1; omega⟩
      case measure => simp [intOf]; omega
    · obtain rfl : j = m := by omega
      have e1 : bs.take j = bs := List.take_of_length_le (by omega)
      rw [e1]
      go_wp2_with (fail)
      go_ret
      exact ⟨rfl, rfl⟩

set_option maxRecDepth 100000 in
set_option maxHeartbeats 4000000 in
theorem hnumber_own (base : Nat) (A0 : Option Addr) (n0 c0 : Nat) (xs : List UInt8) (x : Int) (k : Nat) (w : World) (ho : w.ownsRow base 5 1 (.slice A0 n0 c0) n0 (xs.map byteV)) (hb : base ≤ w.heap.size) (hn : n0 ≤ 1000000) (hk : k ≤ 8) :
    Calls Try.prog 34 #[.slice A0 n0 c0, .int .i64 x, .int .i64 (k : Int)] w fun e w' => ∃ A' c', e = .returned (.slice A' (n0 + k) c') ∧ w'.ownsRow base 5 1 (.slice A' (n0 + k) c') (n0 + k) ((xs ++ numB x k).map byteV) ∧ Below base w w' ∧ Stay w w' := by
  have HO := Lib.hid ho
  clear ho
  have hk1 : IntKind.i64.wrap ((k : Int) - 1) = (k : Int) - 1 := IntWalk.i64_in _ ⟨by omega, by omega⟩
  go_enter Try.func34, Try.ntmps34
  go_wp2_with (fail)
  go_loopw [0, 7] (fun m i wr => ∃ (A : Option Addr) (c j n : Nat), j ≤ k ∧ i = .int .i64 ((k : Int) - 1 - (j : Int)) ∧ m = .slice A n c ∧ Hid (n = n0 + j) ∧ Hid (wr.ownsRow base 5 1 (.slice A n c) n ((xs ++ (numB x k).take j).map byteV)) ∧ Hid (Below base w wr ∧ Stay w wr)) (fun _ i _ => (intOf i + 1).toNat)
  case atStart => exact ⟨A0, c0, 0, n0, by omega, by simp, rfl, Lib.hid rfl, Lib.hid (by simpa using HO.out), Lib.hid ⟨Below.refl _ _, Stay.refl _⟩⟩
  case round =>
    obtain ⟨A, c, j, n, hj, rfl, rfl, HN, HR, HB⟩ := hrel
    by_cases hlt : j < k
    · obtain ⟨i, hi⟩ : ∃ i : Nat, k = j + 1 + i := ⟨k - (j + 1), by omega⟩
      have e1 : (k : Int) - 1 - (j : Int) = (i : Int) := by omega
      have e2 : IntKind.i64.wrap (8 * (i : Int)) = 8 * (i : Int) := IntWalk.i64_in _ ⟨by omega, by omega⟩
      have e3 : wrap64 (8 * (i : Int)) = 8 * (i : Int) := by rw [← IntWalk.i64_left]; exact e2
      have e4 : IntKind.i64.wrap ((i : Int) - 1) = (i : Int) - 1 := IntWalk.i64_in _ ⟨by omega, by omega⟩
      rw [e1]
      have h0 : (0 : Int) ≤ (i : Int) := by omega
      have h7 : i ≤ 7 := by omega
      have hby : x / 2 ^ (8 * i) % 256 = ((byteI (x / 256 ^ i)).toNat : Int) := by
        rw [byteI_nat, show (2 : Int) ^ (8 * i) = 256 ^ i by rw [Int.pow_mul]; rfl]
      have hnx := numB_next x k j i hi
      generalize byteI (x / 256 ^ i) = b at *
      have HX := Lib.hid hnx
      have HI := Lib.hid hi
      have hm := Whole.made wr 5 #[.int .u8 (b.toNat : Int)]
      have HM := Lib.hid (Whole.sl hm [b] rfl (n := 1) rfl)
      have HG := Lib.hid (owned_grow HR.out (grows_alloc wr (.cells #[.int .u8 (b.toNat : Int)] 5)))
      clear hnx hm hi e1
      go_wp2_with (at_builtin
                   refine list_app isSl_bytes isSl_bytes rfl (.tmp 14) (.tmp 20) rfl (base := base) rfl HG.out (A := some ⟨wr.heap.size, 0, none⟩) (m := 1) (c := 1) rfl HM.out (n + 1) rfl (by have := HN.out; omega) (by have := HB.out.1.size; simp; omega) ?_
                   intro A2 c2 w2 ho2 hb2 hs2
                   have HO2 := Lib.hid ho2
                   have HB2 := Lib.hid (And.intro (Below.trans (HB.out.1.alloc (Nat.le_trans hb HB.out.1.size) _) hb2) (Stay.trans HB.out.2 (Stay.trans (Stay.grow (grows_alloc _ _)) hs2)))
                   clear ho2 hb2 hs2)
      go_roundw
      case rel => exact ⟨A2, c2, j + 1, n + 1, by omega, by (have := HI.out; congr 1; omega), rfl, Lib.hid (by have := HN.out; omega), Lib.hid (by rw [HX.out, ← List.append_assoc]; exact HO2.out), HB2⟩
      case measure => (simp [intOf] <;> omega)
    · obtain rfl : j = k := by omega
      have e1 : (j : Int) - 1 - (j : Int) = -1 := by omega
      rw [e1]
      have HR' := HR.out
      rw [List.take_of_length_le (by rw [numB_length]; omega), HN.out] at HR'
      have hN := HN.out
      subst hN
      have HF := Lib.hid HR'
      clear HR'
      go_wp2_with (fail)
      go_ret
      exact ⟨A, c, rfl, by simpa using HF.out, HB.out⟩


end Go.Proofs.Ytdjlhdeejpndcaa

/-
  The walks of hint's body, lastBody and Put.
-/
namespace Go.Proofs.Ytdjlhdeejpndcaa
open Go.RowKit
set_option linter.unusedSimpArgs false
set_option linter.unusedVariables false
attribute [local irreducible] wpF

set_option maxRecDepth 100000 in
set_option maxHeartbeats 4000000 in
theorem hbody_any (h : Ht) (w : World) (hk : h.key.length ≤ 100) : Calls Try.prog 18 #[htV h] w fun e w' => ∃ A c, e = .returned (.slice A (7 + h.key.length) c) ∧
    w'.ownsRow w.heap.size 5 1 (.slice A (7 + h.key.length) c) (7 + h.key.length) ((bodyH h).map byteV) ∧ Grows w w' := by
  obtain ⟨k, key, a, s⟩ := h
  show Calls _ _ #[.agg #[.int .i64 k, .string ⟨key.toArray⟩, .int .i64 a, .int .i64 s]] _ _
  replace hk : key.length ≤ 100 := hk
  have hm := Whole.made w 35 #[.int .i64 k, .string ⟨key.toArray⟩, .int .i64 a, .int .i64 s]
  have hg := grows_alloc w (.cells #[.int .i64 k, .string ⟨key.toArray⟩, .int .i64 a, .int .i64 s] 35)
  obtain ⟨W1, hW1⟩ : ∃ y, w.alloc (.cells #[.int .i64 k, .string ⟨key.toArray⟩, .int .i64 a, .int .i64 s] 35) = y := ⟨_, rfl⟩
  rw [hW1] at hm hg
  have HG := Lib.hid hg
  have HC := Lib.hid (fun w' (hC : Grows W1 w') => by
    have h1 := hC.whole hm
    exact (⟨h1.cell 0, h1.cell 1, h1.cell 2, h1.cell 3⟩ : w'.cell? { block := w.heap.size, off := 0 } = some (.int .i64 k) ∧ w'.cell? { block := w.heap.size, off := 1 } = some (.string ⟨key.toArray⟩) ∧ w'.cell? { block := w.heap.size, off := 2 } = some (.int .i64 a) ∧ w'.cell? { block := w.heap.size, off := 3 } = some (.int .i64 s)))
  clear hm hg
  obtain ⟨z0, z1, z2, z3⟩ := HC.out W1 (Below.refl _ _)
  go_enter Try.func18, Try.ntmps18
  go_wp2_with (fail)
  clear hW1
  refine (hnumber_own W1.heap.size none 0 0 [] k 1 W1 (World.ownsRow_nil _ _ _ _) (Nat.le_refl _) (by omega) (by omega)).mono ?_
  rintro e w2 ⟨A2, c2, rfl, ho2, hb2, _⟩
  clear z0 z1 z2 z3
  obtain ⟨z0, z1, z2, z3⟩ := HC.out w2 hb2
  have H2 := Lib.hid (And.intro ho2 hb2)
  clear ho2 hb2
  go_wp2_with (fail)
  refine (hnumber_own W1.heap.size A2 (0 + 1) c2 _ a 4 w2 H2.out.1 H2.out.2.size (by omega) (by omega)).mono ?_
  rintro e w3 ⟨A3, c3, rfl, ho3, hb3, _⟩
  clear z0 z1 z2 z3
  obtain ⟨z0, z1, z2, z3⟩ := HC.out w3 (H2.out.2.trans hb3)
  have H3 := Lib.hid (And.intro ho3 (H2.out.2.trans hb3))
  clear ho3 hb3 H2
  go_wp2_with (fail)
  refine (hnumber_own W1.heap.size A3 (0 + 1 + 4) c3 _ s 2 w3 H3.out.1 H3.out.2.size (by omega) (by omega)).mono ?_
  rintro e w4 ⟨A4, c4, rfl, ho4, hb4, _⟩
  clear z0 z1 z2 z3
  obtain ⟨z0, z1, z2, z3⟩ := HC.out w4 (H3.out.2.trans hb4)
  have H4 := Lib.hid (And.intro ho4 (H3.out.2.trans hb4))
  clear ho4 hb4 H3
  obtain ⟨k7, hk7⟩ : ∃ k7, 7 + key.length = k7 := ⟨_, rfl⟩
  have HK := Lib.hid hk7
  clear hk7
  go_wp2_with (first
    | (at_builtin
       refine list_app_str isSl_bytes rfl (.tmp 15) (.tmp 17) rfl (base := W1.heap.size) rfl H4.out.1 rfl k7 HK.out (by have := HK.out; omega) H4.out.2.size ?_
       intro A5 c5 w5 ho5 hb5 hs5
       have H5 := Lib.hid (And.intro ho5 (H4.out.2.trans hb5))
       clear ho5 hb5 hs5)
    | fail)
  go_ret
  refine ⟨A5, c5, ?_, ?_, HG.out.trans H5.out.2⟩
  · rw [HK.out]; rfl
  · rw [HK.out]
    exact owned_from (show _ from by simpa [bodyH] using H5.out.1) HG.out.size

theorem hrightSize_any (s : Int) (w : World) :
    Calls Try.prog 16 #[.int .i64 s] w fun e w' => e = .returned (.bool (okS s)) ∧ Grows w w' := by
  go_enter Try.func16, Try.ntmps16
  go_wp2_with (fail)
  refine (hwithin_any s 0 1073741824 w).mono ?_
  rintro e w' ⟨rfl, hg⟩
  have HG := Lib.hid hg
  clear hg
  go_wp2_with (fail)
  go_ret
  exact ⟨rfl, HG.out⟩

set_option maxRecDepth 100000 in
set_option maxHeartbeats 4000000 in
theorem hlast_any (cnt size : Int) (A : Option Addr) (n c : Nat) (bs : List UInt8) (w : World) (hs : Sl w A n c bs) (hn : n ≤ maxLen) : Calls Try.prog 19 #[.int .i64 cnt, .int .i64 size, .slice A n c] w fun e w' => ∃ A' c', e = .returned (.slice A' 13 c') ∧
    w'.ownsRow w.heap.size 5 1 (.slice A' 13 c') 13 ((lastB cnt size bs).map byteV) ∧ Grows w w' := by
  have HS := Lib.hid hs
  have hm := Whole.made w 5 #[.int .u8 7]
  have hg := grows_alloc w (.cells #[.int .u8 7] 5)
  obtain ⟨W1, hW1⟩ : ∃ y, w.alloc (.cells #[.int .u8 7] 5) = y := ⟨_, rfl⟩
  rw [hW1] at hm hg
  have ho1 : W1.ownsRow w.heap.size 5 1 (.slice (some ⟨w.heap.size, 0, none⟩) 1 1) 1 (([7] : List UInt8).map byteV) := ⟨rfl, .inr ⟨w.heap.size, 1, #[.int .u8 7], rfl, Nat.le_refl _, hm, Nat.le_refl _, by unfold maxLen; omega, rfl, rfl⟩⟩
  have H1 := Lib.hid (And.intro ho1 hg)
  clear hm hg ho1 hs
  go_enter Try.func19, Try.ntmps19
  go_wp2_with (fail)
  clear hW1
  refine (hnumber_own w.heap.size _ 1 1 [7] cnt 4 W1 H1.out.1 H1.out.2.size (by omega) (by omega)).mono ?_
  rintro e w2 ⟨A2, c2, rfl, ho2, hb2, _⟩
  have H2 := Lib.hid (And.intro ho2 (Below.trans (show Below w.heap.size w W1 from H1.out.2) hb2))
  clear ho2 hb2
  go_wp2_with (fail)
  refine (hnumber_own w.heap.size A2 (1 + 4) c2 _ size 4 w2 H2.out.1 H2.out.2.size (by omega) (by omega)).mono ?_
  rintro e w3 ⟨A3, c3, rfl, ho3, hb3, _⟩
  have H3 := Lib.hid (And.intro ho3 (Below.trans H2.out.2 hb3))
  clear ho3 hb3 H2 H1
  obtain ⟨N, hN⟩ : ∃ N, onN tabN 0 bs = N := ⟨_, rfl⟩
  have hlt : N < 4294967296 := hN ▸ onN_lt tabN 0 bs
  have kw : IntKind.i64.wrap (N : Int) = (N : Int) := IntWalk.i64_in _ ⟨by omega, by omega⟩
  have HN := Lib.hid hN
  clear hN hlt
  go_wp2_with (fail)
  refine (table_any w3).mono ?_
  rintro e w4 ⟨rfl, hb4⟩
  have hb4 : Grows w3 w4 := hb4
  have H4 := Lib.hid (And.intro (owned_grow H3.out.1 hb4) (Below.trans H3.out.2 (hb4.mono H3.out.2.size)))
  clear hb4 H3
  go_wp2_with (fail)
  refine (of_any tabN tabN_all A n c bs w4 ((HS.out.grow H4.out.2).bytes) hn).mono ?_
  rw [HN.out]
  rintro e w5 ⟨rfl, hb5⟩
  have hb5 : Grows w4 w5 := hb5
  have H5 := Lib.hid (And.intro (owned_grow H4.out.1 hb5) (Below.trans H4.out.2 (hb5.mono H4.out.2.size)))
  clear hb5 H4
  go_wp2_with (fail)
  refine (hnumber_own w.heap.size A3 (1 + 4 + 4) c3 _ N 4 w5 H5.out.1 H5.out.2.size (by omega) (by omega)).mono ?_
  rintro e w6 ⟨A6, c6, rfl, ho6, hb6, _⟩
  have H6 := Lib.hid (And.intro ho6 (Below.trans H5.out.2 hb6))
  clear ho6 hb6 H5
  go_wp2_with (fail)
  go_ret
  refine ⟨A6, c6, rfl, ?_, H6.out.2⟩
  have := H6.out.1
  unfold lastB
  rw [HN.out]
  exact this

theorem sum_below {q : Nat} : ∀ (l : List Ht), (∀ h ∈ l, 15 + h.key.length ≤ q) → (l.map fun h => 15 + h.key.length).sum ≤ q * l.length
  | [], _ => Nat.zero_le _
  | h :: l, hh => by
    have h1 := sum_below l fun x hx => hh x (List.mem_cons_of_mem _ hx)
    have h2 := hh h List.mem_cons_self
    rw [List.map_cons, List.sum_cons, List.length_cons, Nat.mul_add]
    omega
theorem rowsH_most {l : List Ht} (ha : ∀ h ∈ l, aloneB h = true) : (rowsH l).length ≤ 79 * l.length := by
  rw [rowsH_length ha]
  exact sum_below _ fun y hy => by have := alone_nums (ha y hy); omega
set_option maxRecDepth 100000 in
set_option maxHeartbeats 4000000 in
theorem hput_any (A : Option Addr) (n c : Nat) (l : List Ht) (size : Int) (w : World) (h : Hts w A n c l) (hn : n ≤ 1000000000000) (hsz : -9223372036854775808 ≤ size ∧ size ≤ 9223372036854775807) :
    Calls Try.prog 9 #[.slice A n c, .int .i64 size] w fun e w' => ∃ A' m c', e = .returned (.slice A' m c') ∧ m = (putH l size).length ∧
      w'.ownsRow w.heap.size 5 1 (.slice A' m c') m ((putH l size).map byteV) ∧ Grows w w' := by
  have HX := Lib.hid h
  have hlen := h.len
  have HR := Lib.hid (hright_any A n c l w h (by omega))
  obtain ⟨r, hr⟩ : ∃ r, rightH l = r := ⟨_, rfl⟩
  obtain ⟨o, ho⟩ : ∃ o, okS size = o := ⟨_, rfl⟩
  have HS := Lib.hid (fun w' => show Calls Try.prog 16 #[.int .i64 size] w' fun e w'' => e = .returned (.bool o) ∧ Grows w' w'' from ho ▸ hrightSize_any size w')
  rw [hr] at HR
  have HRO := Lib.hid (And.intro hr ho)
  clear hr ho h
  go_enter Try.func9, Try.ntmps9
  go_wp2_with (fail)
  refine HR.out.mono ?_
  rintro e w1 ⟨rfl, hg1⟩
  have HG1 := Lib.hid hg1
  clear hg1
  cases r
  · go_wp2_with (fail)
    go_ret
    refine ⟨none, 0, 0, rfl, ?_, ?_, HG1.out⟩
    · rw [putH_ill (.inl HRO.out.1)]; rfl
    · rw [putH_ill (.inl HRO.out.1)]; exact World.ownsRow_nil _ _ _ _
  go_wp2_with (fail)
  refine (HS.out w1).mono ?_
  rintro e w2 ⟨rfl, hg2⟩
  have HG2 := Lib.hid (HG1.out.trans hg2)
  clear hg2
  cases o
  · go_wp2_with (fail)
    go_ret
    refine ⟨none, 0, 0, rfl, ?_, ?_, HG2.out⟩
    · rw [putH_ill (.inr HRO.out.2)]; rfl
    · rw [putH_ill (.inr HRO.out.2)]; exact World.ownsRow_nil _ _ _ _
  have HAL := Lib.hid (rightF_all HRO.out.1)
  have HLE := Lib.hid hlen
  clear hlen
  go_wp2_with (fail)
  go_loopw [5, 18] (fun b i wr => ∃ (j : Nat) (B : Option Addr) (m cb : Nat), j ≤ n ∧ i = .int .i64 (j : Nat) ∧ b = .slice B m cb ∧ Hid (m = (rowsH (l.take j)).length) ∧ Hid (wr.ownsRow w.heap.size 5 1 (.slice B m cb) m ((rowsH (l.take j)).map byteV)) ∧ Hid (Below w.heap.size w wr)) (fun _ i _ => n - (intOf i).toNat)
  case atStart => exact ⟨0, none, 0, 0, by omega, rfl, rfl, Lib.hid rfl, Lib.hid (World.ownsRow_nil _ _ _ _), HG2⟩
  case round =>
    obtain ⟨j, B, m, cb, hj, rfl, rfl, HM, HO, HG⟩ := hrel
    by_cases hlt : j < n
    · obtain ⟨ad, x, rfl, hx, hb, hc⟩ := Hts.at (HX.out.grow HG.out) hlt
      have k0 : (0 : Int) ≤ (j : Int) := by omega
      have k1 : (j : Int) < (n : Int) := by omega
      obtain ⟨c0, c1, c2, c3⟩ := hc _ (Below.refl _ _)
      have htk : l.take (j + 1) = l.take j ++ [x] := by rw [List.take_add_one, hx]; rfl
      have hax := HAL.out x (List.mem_of_getElem? hx)
      have hnx := alone_nums hax
      have hrow : rowsH (l.take (j + 1)) = rowsH (l.take j) ++ putB (bodyH x) := by
        unfold rowsH
        rw [htk, List.map_append, putL_append, List.map_cons, List.map_nil, putL, putL, List.append_nil]
      have hrl : (rowsH (l.take j)).length ≤ 79 * j := by
        have := rowsH_most (l := l.take j) fun y hy => HAL.out y (List.mem_of_mem_take hy)
        rw [List.length_take] at this
        omega
      have hpb : (putB (bodyH x)).length ≤ 79 := by
        rw [putB_good (bodyH_good hax), frameB_length, bodyH_length]
        omega
      have HQ := Lib.hid (And.intro hrow (And.intro hrl (And.intro hpb hnx)))
      have hm := Whole.made wr 35 #[.int .i64 x.kind, .string ⟨x.key.toArray⟩, .int .i64 x.at_, .int .i64 x.size]
      have hg1 := grows_alloc wr (.cells #[.int .i64 x.kind, .string ⟨x.key.toArray⟩, .int .i64 x.at_, .int .i64 x.size] 35)
      obtain ⟨W1, hW1⟩ : ∃ y, wr.alloc (.cells #[.int .i64 x.kind, .string ⟨x.key.toArray⟩, .int .i64 x.at_, .int .i64 x.size] 35) = y := ⟨_, rfl⟩
      rw [hW1] at hm hg1
      have m0 := hm.cell 0
      have m1 := hm.cell 1
      have m2 := hm.cell 2
      have m3 := hm.cell 3
      simp only [List.getElem?_toArray, List.getElem?_cons_zero, List.getElem?_cons_succ] at m0 m1 m2 m3
      have HM1 := Lib.hid (And.intro (owned_grow HO.out hg1) (Below.trans HG.out (hg1.mono HG.out.size)))
      clear hc hx hb htk hm hg1 hax hnx hrow hrl hpb
      go_wp2_with (fail)
      clear hW1 m0 m1 m2 m3
      refine (hbody_any x W1 (by have := HQ.out.2.2.2; omega)).mono ?_
      rintro e w3 ⟨A3, c3', rfl, ho3, hg3⟩
      have H3 := Lib.hid (And.intro ho3 (And.intro (owned_grow HM1.out.1 hg3) (Below.trans HM1.out.2 (hg3.mono HM1.out.2.size))))
      clear ho3 hg3 HM1
      go_wp2_with (fail)
      refine (fput_own A3 (7 + x.key.length) c3' (bodyH x) w3 (Sl.owned H3.out.1) (by unfold maxLen; have := HQ.out.2.2.2; omega)).mono ?_
      rintro e w4 ⟨A4, m4, c4, rfl, ho4, hg4⟩
      have hg4 : Grows w3 w4 := hg4
      have hs4 := Sl.owned ho4
      have HL4 := Lib.hid hs4.len
      have H4 := Lib.hid (And.intro hs4 (And.intro (owned_grow H3.out.2.1 hg4) (Below.trans H3.out.2.2 (hg4.mono H3.out.2.2.size))))
      obtain ⟨k4, hk4⟩ : ∃ k, m + m4 = k := ⟨_, rfl⟩
      have HK := Lib.hid hk4
      clear ho4 hs4 hg4 H3 hk4
      go_wp2_with (first
        | (at_builtin
           refine list_app isSl_bytes isSl_bytes rfl (.tmp 22) (.tmp 25) rfl (base := w.heap.size) rfl H4.out.2.1 rfl H4.out.1 k4 HK.out (by have h1 := HK.out; have h2 := HM.out; have h3 := HL4.out; have h4 := HQ.out.2.1; have h5 := HQ.out.2.2.1; omega) H4.out.2.2.size ?_
           intro A5 c5 w5 ho5 hb5 hs5
           have H5 := Lib.hid (And.intro ho5 (Below.trans H4.out.2.2 hb5))
           clear ho5 hb5 hs5)
        | fail)
      go_roundw
      case rel => exact ⟨j + 1, A5, k4, c5, by omega, by go_num, rfl, Lib.hid (by rw [HQ.out.1, List.length_append, ← HK.out, HM.out, HL4.out]), Lib.hid (by rw [HQ.out.1]; exact H5.out.1), Lib.hid H5.out.2⟩
      case measure => simp [intOf]; omega
    · obtain rfl : j = n := by omega
      have hall : l.take j = l := List.take_of_length_le (by rw [HLE.out]; exact Nat.le_refl _)
      have hrl : (rowsH l).length ≤ 79 * j := by
        have := rowsH_most (l := l) HAL.out
        rw [HLE.out] at this
        exact this
      rw [hall] at HM HO
      have HML := Lib.hid (And.intro HM.out hrl)
      clear hall hrl
      go_wp2_with (fail)
      refine (hlast_any (j : Int) size B m cb (rowsH l) wr (Sl.owned HO.out) (by unfold maxLen; have := HML.out; omega)).mono ?_
      rintro e w3 ⟨A3, c3, rfl, ho3, hg3⟩
      have H3 := Lib.hid (And.intro (Sl.owned ho3) (And.intro (owned_grow HO.out hg3) (Below.trans HG.out (hg3.mono HG.out.size))))
      clear ho3 hg3 HO HG
      go_wp2_with (fail)
      refine (fput_own A3 13 c3 _ w3 H3.out.1 (by unfold maxLen; omega)).mono ?_
      rintro e w4 ⟨A4, m4, c4, rfl, ho4, hg4⟩
      have hg4 : Grows w3 w4 := hg4
      have hs4 := Sl.owned ho4
      have HL4 := Lib.hid (show m4 = 21 by have := hs4.len; rw [putB_good (lastB_good _ _ _), frameB_length, lastB_length] at this; omega)
      have H4 := Lib.hid (And.intro hs4 (And.intro (owned_grow H3.out.2.1 hg4) (Below.trans H3.out.2.2 (hg4.mono H3.out.2.2.size))))
      obtain ⟨k4, hk4⟩ : ∃ k, m + m4 = k := ⟨_, rfl⟩
      have HK := Lib.hid hk4
      clear ho4 hs4 hg4 H3 hk4
      go_wp2_with (first
        | (at_builtin
           refine list_app isSl_bytes isSl_bytes rfl (.tmp 28) (.tmp 34) rfl (base := w.heap.size) rfl H4.out.2.1 rfl H4.out.1 k4 HK.out (by have h1 := HK.out; have h2 := HML.out; have h3 := HL4.out; omega) H4.out.2.2.size ?_
           intro A5 c5 w5 ho5 hb5 hs5
           have H5 := Lib.hid (And.intro ho5 (Below.trans H4.out.2.2 hb5))
           clear ho5 hb5 hs5)
        | fail)
      go_ret
      have hput : putH l size = rowsH l ++ putB (lastB (j : Int) size (rowsH l)) := by
        rw [putH_right HRO.out.1 HRO.out.2, putL_append, putL, putL, List.append_nil, HLE.out]
        rfl
      refine ⟨A5, k4, c5, rfl, ?_, ?_, H5.out.2⟩
      · rw [hput, List.length_append, putB_good (lastB_good _ _ _), frameB_length, lastB_length, ← HK.out, HML.out.1, HL4.out]
      · rw [hput]
        exact H5.out.1
end Go.Proofs.Ytdjlhdeejpndcaa


/-
  The walks of hint's toldOne and told, of bytes.Equal, and of the answer's Same.
-/
namespace Go.Proofs.Ytdjlhdeejpndcaa
open Go.RowKit
set_option linter.unusedSimpArgs false
set_option linter.unusedVariables false
attribute [local irreducible] wpF

theorem results_ht {fn : Func} {p : Tmp} (h : fn.results = #[.cell p 35]) (tmps : Array Value) (w : World) (g : Nat) (t : TypeId) (u0 u1 u2 u3 : Value)
    (hp : tmps.getD p undef = .pointer (some ⟨g, 0, none⟩)) (hg : Whole w g t #[u0, u1, u2, u3]) :
    (results fn tmps).run Try.prog w = .ok (.agg #[u0, u1, u2, u3]) w := by
  have hp' : tmps[p]?.getD undef = .pointer (some ⟨g, 0, none⟩) := by simpa using hp
  have hi : (Try.prog.info? 35).map (·.size) = some 4 := by kernel_rfl
  simp [results, h, hp', asAddr, run_loadVar_row w g t 35 #[u0, u1, u2, u3] (0, 0) _ hg Try.underlying35 rfl hi]

set_option maxRecDepth 100000 in
set_option maxHeartbeats 4000000 in
theorem toldOne_any (A : Option Addr) (n c : Nat) (bs : List UInt8) (w : World) (hs : Sl w A n c bs) (hn : n ≤ 1000000) :
    Calls Try.prog 39 #[.slice A n c] w fun e w' => e = .returned (htV (toldH bs)) ∧ Grows w w' := by
  have hlen := hs.len
  have hcap := hs.cap
  have hm := Whole.made w 35 #[.int .i64 0, .string ⟨#[]⟩, .int .i64 0, .int .i64 0]
  have hg := grows_alloc w (.cells #[.int .i64 0, .string ⟨#[]⟩, .int .i64 0, .int .i64 0] 35)
  obtain ⟨W1, hW1⟩ : ∃ y, w.alloc (.cells #[.int .i64 0, .string ⟨#[]⟩, .int .i64 0, .int .i64 0] 35) = y := ⟨_, rfl⟩
  rw [hW1] at hm hg
  have HS := Lib.hid (hs.grow hg)
  have HM := Lib.hid hm
  have HG := Lib.hid hg
  have HWW := Lib.hid hW1
  have f0 := hm.free 0
  have f1 := hm.free 1
  have f2 := hm.free 2
  have f3 := hm.free 3
  have z0 := hm.cell 0
  have z1 := hm.cell 1
  have z2 := hm.cell 2
  have z3 := hm.cell 3
  simp only [List.getElem?_toArray, List.getElem?_cons_zero, List.getElem?_cons_succ] at z0 z1 z2 z3
  clear hs hm hg
  by_cases h7 : n < 7
  · have h7' : (n : Int) < 7 := by omega
    have HT := Lib.hid (show toldH bs = Ht.none by unfold toldH; rw [if_pos (by omega)])
    clear h7
    go_enter Try.func39, Try.ntmps39
    go_wp2_with (first | rw [hW1] | fail)
    refine bodyPost_ret (results_ht rfl _ _ w.heap.size _ _ _ _ _ rfl (show Whole _ _ _ #[.int .i64 0, .string ⟨#[]⟩, .int .i64 0, .int .i64 0] from (((HM.out.put 0 _).put 1 _).put 2 _).put 3 _)) rfl ?_
    exact ⟨by rw [HT.out]; rfl, (((HG.out.setCell (p := ⟨w.heap.size, 0, none⟩) (Nat.le_refl _) _).setCell (p := ⟨w.heap.size, 1, none⟩) (Nat.le_refl _) _).setCell (p := ⟨w.heap.size, 2, none⟩) (Nat.le_refl _) _).setCell (p := ⟨w.heap.size, 3, none⟩) (Nat.le_refl _) _⟩
  have h7' : ¬ (n : Int) < 7 := by omega
  obtain ⟨ad, rfl⟩ : ∃ ad, A = some ad := by
    rcases A with _ | ad
    · have := HS.out.bare rfl; omega
    · exact ⟨ad, rfl⟩
  have hp0 := HS.out.first (k := 1) (by omega)
  have hp1 := (HS.out.part (k := 1) (m := 5) (by omega) (by omega) (by omega))
  have hp5 := (HS.out.part (k := 5) (m := 7) (by omega) (by omega) (by omega))
  rw [show 5 - 1 = 4 from rfl] at hp1
  rw [show 7 - 5 = 2 from rfl] at hp5
  obtain ⟨x0, hx0⟩ : ∃ x, valB (bs.take 1) = x := ⟨_, rfl⟩
  obtain ⟨x1, hx1⟩ : ∃ x, valB ((bs.take 5).drop 1) = x := ⟨_, rfl⟩
  obtain ⟨x2, hx2⟩ : ∃ x, valB ((bs.take 7).drop 5) = x := ⟨_, rfl⟩
  obtain ⟨ks, hks⟩ : ∃ x, bs.drop 7 = x := ⟨_, rfl⟩
  have HT := Lib.hid (show toldH bs = ⟨x0, ks, x1, x2⟩ by unfold toldH; rw [if_neg (by omega), hx0, hx1, hx2, hks])
  have HN0 := Lib.hid (fun w' (hC : Grows W1 w') => hx0 ▸ hnumberOf_any _ 1 c _ w' (hp0.grow hC) (by omega))
  have HN1 := Lib.hid (fun w' (hC : Grows W1 w') => hx1 ▸ hnumberOf_any _ 4 (c - 1) _ w' (hp1.grow hC) (by omega))
  have HN2 := Lib.hid (fun w' (hC : Grows W1 w') => hx2 ▸ hnumberOf_any _ 2 (c - 5) _ w' (hp5.grow hC) (by omega))
  have k1 : ¬ c = 1 := by omega
  have k5 : ¬ c = 5 := by omega
  have i1 : (1 : Int) ≤ (c : Int) := by omega
  have i5 : (5 : Int) ≤ (c : Int) := by omega
  have i7 : (7 : Int) ≤ (c : Int) := by omega
  have j7 : (7 : Int) ≤ (n : Int) := by omega
  have jc : (n : Int) ≤ (c : Int) := by omega
  have HCAP := Lib.hid (And.intro hlen (And.intro hcap h7))
  obtain ⟨r7, hr7⟩ : ∃ r7, n - 7 = r7 := ⟨_, rfl⟩
  clear hp0 hp1 hp5 hx0 hx1 hx2 hlen hcap h7
  by_cases hc7 : c = 7
  · have HKS := Lib.hid (fun w' (hC : Grows W1 w') => show Sl w' (some ad) r7 (c - 7) ks from by
      have h1 := HCAP.out
      have e : ks = [] := by rw [← hks]; exact List.drop_eq_nil_of_le (by omega)
      have e2 : r7 = 0 := by omega
      rw [e, e2]
      exact ⟨Bytes.nil _ _ _, Nat.zero_le _, fun h => by cases h⟩)
    clear hks
    go_enter Try.func39, Try.ntmps39
    go_wp2_with (first | rw [hW1] | fail)
    clear hW1
    refine wp_region_facts_tail (E := Grows) 12 [valFact (.slice (some ad) n c), valFact (.slice (some ad) 1 c), valFact (.int .i64 x0), valFact (.slice (some ad) n c), valFact (.slice (some ad) r7 (c - 7)), valFact (.string ⟨ks.toArray⟩), valFact (.slice (some ad) n c), valFact (.slice (some (ad.add 1)) 4 (c - 1)), valFact (.int .i64 x1), valFact (.slice (some ad) n c), valFact (.slice (some (ad.add 5)) 2 (c - 5)), valFact (.int .i64 x2)] mixed (by kernel_rfl) (fun _ _ _ => Grows.trans) (grows_drew _) ?_
    simp only [List.take_succ_cons, List.take_zero, List.drop_succ_cons, List.drop_zero]
    refine f_val (.slice (some ad) n c) (by rfl) ?_ ?_
    · intro w' hC; clear hC; go_simp
    simp only [Act.put, List.setIfInBounds_toArray, List.set_cons_zero, List.set_cons_succ]
    refine f_val (.slice (some ad) 1 c) (by rfl) ?_ ?_
    · intro w' hC; clear hC; first | (go_simp; done)
    simp only [Act.put, List.setIfInBounds_toArray, List.set_cons_zero, List.set_cons_succ]
    refine f_call 49 #[.slice (some ad) 1 c] (.int .i64 x0) (by rfl) (by intro w' hC; clear hC; go_simp) ?_ ?_
    · intro w' hC hks; exact (HN0.out w' hC).mono fun e w'' hh => ⟨hh.1, hh.2 ▸ Below.refl _ _⟩
    simp only [Act.put, List.setIfInBounds_toArray, List.set_cons_zero, List.set_cons_succ]
    refine f_val (.slice (some ad) n c) (by rfl) ?_ ?_
    · intro w' hC; clear hC; go_simp
    simp only [Act.put, List.setIfInBounds_toArray, List.set_cons_zero, List.set_cons_succ]
    refine f_val (.slice (some ad) r7 (c - 7)) (by rfl) ?_ ?_
    · intro w' hC; clear hC; first | (go_simp; done)
    simp only [Act.put, List.setIfInBounds_toArray, List.set_cons_zero, List.set_cons_succ]
    refine f_known (.string ⟨ks.toArray⟩) (by rfl) ?_ ?_
    · intro w' hC hks; exact run_op_string rfl rfl (HKS.out w' hC)
    simp only [Act.put, List.setIfInBounds_toArray, List.set_cons_zero, List.set_cons_succ]
    refine f_val (.slice (some ad) n c) (by rfl) ?_ ?_
    · intro w' hC; clear hC; go_simp
    simp only [Act.put, List.setIfInBounds_toArray, List.set_cons_zero, List.set_cons_succ]
    refine f_val (.slice (some (ad.add 1)) 4 (c - 1)) (by rfl) ?_ ?_
    · intro w' hC; clear hC; first | (go_simp; done)
    simp only [Act.put, List.setIfInBounds_toArray, List.set_cons_zero, List.set_cons_succ]
    refine f_call 49 #[.slice (some (ad.add 1)) 4 (c - 1)] (.int .i64 x1) (by rfl) (by intro w' hC; clear hC; go_simp) ?_ ?_
    · intro w' hC hks; exact (HN1.out w' hC).mono fun e w'' hh => ⟨hh.1, hh.2 ▸ Below.refl _ _⟩
    simp only [Act.put, List.setIfInBounds_toArray, List.set_cons_zero, List.set_cons_succ]
    refine f_val (.slice (some ad) n c) (by rfl) ?_ ?_
    · intro w' hC; clear hC; go_simp
    simp only [Act.put, List.setIfInBounds_toArray, List.set_cons_zero, List.set_cons_succ]
    refine f_val (.slice (some (ad.add 5)) 2 (c - 5)) (by rfl) ?_ ?_
    · intro w' hC; clear hC; first | (go_simp; done)
    simp only [Act.put, List.setIfInBounds_toArray, List.set_cons_zero, List.set_cons_succ]
    refine f_call 49 #[.slice (some (ad.add 5)) 2 (c - 5)] (.int .i64 x2) (by rfl) (by intro w' hC; clear hC; go_simp) ?_ ?_
    · intro w' hC hks; exact (HN2.out w' hC).mono fun e w'' hh => ⟨hh.1, hh.2 ▸ Below.refl _ _⟩
    simp only [Act.put, List.setIfInBounds_toArray, List.set_cons_zero, List.set_cons_succ]
    refine wpF_end ?_
    intro w2 hC hks
    have HCw2 := Lib.hid hC
    clear hC hks
    have hm2 := HCw2.out.whole HM.out
    have q0 := hm2.free 0
    have q1 := hm2.free 1
    have q2 := hm2.free 2
    have q3 := hm2.free 3
    have y0 := hm2.cell 0
    have y1 := hm2.cell 1
    have y2 := hm2.cell 2
    have y3 := hm2.cell 3
    simp only [List.getElem?_toArray, List.getElem?_cons_zero, List.getElem?_cons_succ] at y0 y1 y2 y3
    have HM2 := Lib.hid hm2
    clear hm2 f0 f1 f2 f3 z0 z1 z2 z3
    go_wp2_with (fail)
    refine bodyPost_ret (results_ht rfl _ _ w.heap.size _ _ _ _ _ rfl (show Whole _ _ _ #[.int .i64 x0, .string ⟨ks.toArray⟩, .int .i64 x1, .int .i64 x2] from (((HM2.out.put 0 _).put 1 _).put 2 _).put 3 _)) rfl ?_
    exact ⟨by rw [HT.out]; rfl, ((((HG.out.trans HCw2.out).setCell (p := ⟨w.heap.size, 0, none⟩) (Nat.le_refl _) _).setCell (p := ⟨w.heap.size, 1, none⟩) (Nat.le_refl _) _).setCell (p := ⟨w.heap.size, 2, none⟩) (Nat.le_refl _) _).setCell (p := ⟨w.heap.size, 3, none⟩) (Nat.le_refl _) _⟩
  · have HKS := Lib.hid (fun w' (hC : Grows W1 w') => show Sl w' (some (ad.add 7)) r7 (c - 7) ks from by
      have h1 := HCAP.out
      have h0 := (HS.out.grow hC).part (k := 7) (m := n) (by omega) (by omega) hc7
      rw [List.take_of_length_le (by omega), hr7, hks] at h0
      exact h0)
    clear hks
    go_enter Try.func39, Try.ntmps39
    go_wp2_with (first | rw [hW1] | fail)
    clear hW1
    refine wp_region_facts_tail (E := Grows) 12 [valFact (.slice (some ad) n c), valFact (.slice (some ad) 1 c), valFact (.int .i64 x0), valFact (.slice (some ad) n c), valFact (.slice (some (ad.add 7)) r7 (c - 7)), valFact (.string ⟨ks.toArray⟩), valFact (.slice (some ad) n c), valFact (.slice (some (ad.add 1)) 4 (c - 1)), valFact (.int .i64 x1), valFact (.slice (some ad) n c), valFact (.slice (some (ad.add 5)) 2 (c - 5)), valFact (.int .i64 x2)] mixed (by kernel_rfl) (fun _ _ _ => Grows.trans) (grows_drew _) ?_
    simp only [List.take_succ_cons, List.take_zero, List.drop_succ_cons, List.drop_zero]
    refine f_val (.slice (some ad) n c) (by rfl) ?_ ?_
    · intro w' hC; clear hC; go_simp
    simp only [Act.put, List.setIfInBounds_toArray, List.set_cons_zero, List.set_cons_succ]
    refine f_val (.slice (some ad) 1 c) (by rfl) ?_ ?_
    · intro w' hC; clear hC; first | (go_simp; done)
    simp only [Act.put, List.setIfInBounds_toArray, List.set_cons_zero, List.set_cons_succ]
    refine f_call 49 #[.slice (some ad) 1 c] (.int .i64 x0) (by rfl) (by intro w' hC; clear hC; go_simp) ?_ ?_
    · intro w' hC hks; exact (HN0.out w' hC).mono fun e w'' hh => ⟨hh.1, hh.2 ▸ Below.refl _ _⟩
    simp only [Act.put, List.setIfInBounds_toArray, List.set_cons_zero, List.set_cons_succ]
    refine f_val (.slice (some ad) n c) (by rfl) ?_ ?_
    · intro w' hC; clear hC; go_simp
    simp only [Act.put, List.setIfInBounds_toArray, List.set_cons_zero, List.set_cons_succ]
    refine f_val (.slice (some (ad.add 7)) r7 (c - 7)) (by rfl) ?_ ?_
    · intro w' hC; clear hC; first | (go_simp; done)
    simp only [Act.put, List.setIfInBounds_toArray, List.set_cons_zero, List.set_cons_succ]
    refine f_known (.string ⟨ks.toArray⟩) (by rfl) ?_ ?_
    · intro w' hC hks; exact run_op_string rfl rfl (HKS.out w' hC)
    simp only [Act.put, List.setIfInBounds_toArray, List.set_cons_zero, List.set_cons_succ]
    refine f_val (.slice (some ad) n c) (by rfl) ?_ ?_
    · intro w' hC; clear hC; go_simp
    simp only [Act.put, List.setIfInBounds_toArray, List.set_cons_zero, List.set_cons_succ]
    refine f_val (.slice (some (ad.add 1)) 4 (c - 1)) (by rfl) ?_ ?_
    · intro w' hC; clear hC; first | (go_simp; done)
    simp only [Act.put, List.setIfInBounds_toArray, List.set_cons_zero, List.set_cons_succ]
    refine f_call 49 #[.slice (some (ad.add 1)) 4 (c - 1)] (.int .i64 x1) (by rfl) (by intro w' hC; clear hC; go_simp) ?_ ?_
    · intro w' hC hks; exact (HN1.out w' hC).mono fun e w'' hh => ⟨hh.1, hh.2 ▸ Below.refl _ _⟩
    simp only [Act.put, List.setIfInBounds_toArray, List.set_cons_zero, List.set_cons_succ]
    refine f_val (.slice (some ad) n c) (by rfl) ?_ ?_
    · intro w' hC; clear hC; go_simp
    simp only [Act.put, List.setIfInBounds_toArray, List.set_cons_zero, List.set_cons_succ]
    refine f_val (.slice (some (ad.add 5)) 2 (c - 5)) (by rfl) ?_ ?_
    · intro w' hC; clear hC; first | (go_simp; done)
    simp only [Act.put, List.setIfInBounds_toArray, List.set_cons_zero, List.set_cons_succ]
    refine f_call 49 #[.slice (some (ad.add 5)) 2 (c - 5)] (.int .i64 x2) (by rfl) (by intro w' hC; clear hC; go_simp) ?_ ?_
    · intro w' hC hks; exact (HN2.out w' hC).mono fun e w'' hh => ⟨hh.1, hh.2 ▸ Below.refl _ _⟩
    simp only [Act.put, List.setIfInBounds_toArray, List.set_cons_zero, List.set_cons_succ]
    refine wpF_end ?_
    intro w2 hC hks
    have HCw2 := Lib.hid hC
    clear hC hks
    have hm2 := HCw2.out.whole HM.out
    have q0 := hm2.free 0
    have q1 := hm2.free 1
    have q2 := hm2.free 2
    have q3 := hm2.free 3
    have y0 := hm2.cell 0
    have y1 := hm2.cell 1
    have y2 := hm2.cell 2
    have y3 := hm2.cell 3
    simp only [List.getElem?_toArray, List.getElem?_cons_zero, List.getElem?_cons_succ] at y0 y1 y2 y3
    have HM2 := Lib.hid hm2
    clear hm2 f0 f1 f2 f3 z0 z1 z2 z3
    go_wp2_with (fail)
    refine bodyPost_ret (results_ht rfl _ _ w.heap.size _ _ _ _ _ rfl (show Whole _ _ _ #[.int .i64 x0, .string ⟨ks.toArray⟩, .int .i64 x1, .int .i64 x2] from (((HM2.out.put 0 _).put 1 _).put 2 _).put 3 _)) rfl ?_
    exact ⟨by rw [HT.out]; rfl, ((((HG.out.trans HCw2.out).setCell (p := ⟨w.heap.size, 0, none⟩) (Nat.le_refl _) _).setCell (p := ⟨w.heap.size, 1, none⟩) (Nat.le_refl _) _).setCell (p := ⟨w.heap.size, 2, none⟩) (Nat.le_refl _) _).setCell (p := ⟨w.heap.size, 3, none⟩) (Nat.le_refl _) _⟩

set_option maxRecDepth 100000 in
set_option maxHeartbeats 4000000 in
theorem bytesEqual_any (A : Option Addr) (n c : Nat) (xs : List UInt8) (B : Option Addr) (m d : Nat) (ys : List UInt8) (w : World) (hx : Sl w A n c xs) (hy : Sl w B m d ys) :
    Calls Try.prog 22 #[.slice A n c, .slice B m d] w fun e w' => e = .returned (.bool (decide (xs = ys))) ∧ Grows w w' := by
  have e1 := run_string hx
  have e2 := run_string hy
  clear hx hy
  go_enter Try.func22, Try.ntmps22
  go_wp2_with (fail)
  go_ret
  exact ⟨ret_bool (by rw [Bool.eq_iff_iff]; simp), Below.refl _ _⟩

theorem infoHt : (Try.prog.info? 35).map (fun i => (i.zero, i.size, i.bytes)) = some (some (.agg #[.int .i64 0, .string ⟨#[]⟩, .int .i64 0, .int .i64 0]), 4, 40) := by kernel_rfl
theorem info_of {t : TypeId} {z : Value} {a b : Nat} (h : (Try.prog.info? t).map (fun i => (i.zero, i.size, i.bytes)) = some (some z, a, b)) : ∃ i, Try.prog.info? t = some i ∧ i.zero = some z ∧ i.size = a ∧ i.bytes = b := by
  cases h1 : Try.prog.info? t with
  | none => rw [h1] at h; cases h
  | some i =>
    rw [h1] at h
    simp only [Option.map_some, Option.some.injEq, Prod.mk.injEq] at h
    exact ⟨i, rfl, h.1, h.2.1, h.2.2⟩
theorem flat_snoc {α : Type} (enc : α → List Value) (l : List α) (x : α) : (l ++ [x]).flatMap enc = l.flatMap enc ++ enc x := by simp

set_option maxRecDepth 100000 in
set_option maxHeartbeats 4000000 in
theorem told_any (A : Option Addr) (n c : Nat) (ts : List It) (w : World) (h : Items w A n c ts) (hn : n ≤ 1000000) (hb : ∀ t ∈ ts, t.2.2.length ≤ 1000000) :
    Calls Try.prog 21 #[.slice A n c] w fun e w' => ∃ A' c', e = .returned (.slice A' n c') ∧
      w'.ownsRow w.heap.size 35 4 (.slice A' n c') n ((ts.map fun t => toldH t.2.2).flatMap htE) ∧ Grows w w' := by
  have HX := Lib.hid h
  have hlen := h.len
  have HBB := Lib.hid hb
  clear h hb
  obtain ⟨i0, hi0, hz0, hz1, hz2⟩ := info_of infoHt
  have HI := Lib.hid (And.intro hi0 (And.intro hz0 (And.intro hz1 hz2)))
  clear hi0 hz0 hz1 hz2
  go_enter Try.func21, Try.ntmps21
  go_wp2_with (fail)
  go_loopw [3, 8] (fun b i wr => ∃ (j : Nat) (B : Option Addr) (cb : Nat), j ≤ n ∧ i = .int .i64 (j : Nat) ∧ b = .slice B j cb ∧ Hid (wr.ownsRow w.heap.size 35 4 (.slice B j cb) j (((ts.take j).map fun t => toldH t.2.2).flatMap htE)) ∧ Hid (Below w.heap.size w wr)) (fun _ i _ => n - (intOf i).toNat)
  case atStart => exact ⟨0, none, 0, by omega, rfl, rfl, Lib.hid (World.ownsRow_nil _ _ _ _), Lib.hid (Below.refl _ _)⟩
  case round =>
    obtain ⟨j, B, cb, hj, rfl, rfl, HO, HG⟩ := hrel
    by_cases hlt : j < n
    · obtain ⟨ad, SB, sm, sd, rfl, hc0, hc1, hc2, hsl⟩ := (Items.grow HG.out HX.out).spot hlt
      obtain ⟨t, ht⟩ : ∃ t, ts[j]? = some t := ⟨_, List.getElem?_eq_getElem (by omega)⟩
      have hgd : ts.getD j (0, 0, []) = t := by rw [List.getD_eq_getElem?_getD, ht]; rfl
      rw [hgd] at hc0 hc1 hsl
      have k0 : (0 : Int) ≤ (j : Int) := by omega
      have k1 : (j : Int) < (n : Int) := by omega
      have c0 := hc0 _ (Below.refl _ _)
      have c1 := hc1 _ (Below.refl _ _)
      have c2 := hc2 _ (Below.refl _ _)
      have htk : ts.take (j + 1) = ts.take j ++ [t] := by rw [List.take_add_one, ht]; rfl
      have hsm : sm ≤ 1000000 := by
        have h1 := HBB.out t (List.mem_of_getElem? ht)
        rw [hsl.len] at h1
        exact h1
      have hrow : ((ts.take (j + 1)).map fun t => toldH t.2.2).flatMap htE = (((ts.take j).map fun t => toldH t.2.2).flatMap htE) ++ htE (toldH t.2.2) := by
        rw [htk, List.map_append, List.map_cons, List.map_nil, flat_snoc]
      have HQ := Lib.hid (And.intro hrow (And.intro hsl hsm))
      obtain ⟨x, y, bs⟩ := t
      dsimp only at c0 c1 HQ
      have hm := Whole.made wr 56 #[.int .i64 (x : Nat), .int .i64 (y : Nat), .slice SB sm sd]
      have hg1 := grows_alloc wr (.cells #[.int .i64 (x : Nat), .int .i64 (y : Nat), .slice SB sm sd] 56)
      obtain ⟨W1, hW1⟩ : ∃ z, wr.alloc (.cells #[.int .i64 (x : Nat), .int .i64 (y : Nat), .slice SB sm sd] 56) = z := ⟨_, rfl⟩
      rw [hW1] at hm hg1
      have m0 := hm.cell 0
      have m1 := hm.cell 1
      have m2 := hm.cell 2
      simp only [List.getElem?_toArray, List.getElem?_cons_zero, List.getElem?_cons_succ] at m0 m1 m2
      have HM1 := Lib.hid (And.intro (owned_grow HO.out hg1) (And.intro (Below.trans HG.out (hg1.mono HG.out.size)) (HQ.out.2.1.grow hg1)))
      clear hc0 hc1 hc2 hsl htk hm hg1 hrow ht hgd
      go_wp2_with (fail)
      clear hW1 m0 m1 m2
      refine (toldOne_any SB sm sd bs W1 HM1.out.2.2 HQ.out.2.2).mono ?_
      rintro e w3 ⟨rfl, hg3⟩
      obtain ⟨hh, hhh⟩ : ∃ z, toldH bs = z := ⟨_, rfl⟩
      rw [hhh] at HQ ⊢
      obtain ⟨hk, hkey, ha, hsz⟩ := hh
      show _
      unfold htV
      have hg4 := grows_alloc w3 (.cells #[.int .i64 hk, .string ⟨hkey.toArray⟩, .int .i64 ha, .int .i64 hsz] 35)
      have hm4 := Whole.made w3 35 #[.int .i64 hk, .string ⟨hkey.toArray⟩, .int .i64 ha, .int .i64 hsz]
      have H3 := Lib.hid (And.intro (owned_grow HM1.out.1 (hg3.trans hg4)) (Below.trans HM1.out.2.1 ((hg3.trans hg4).mono HM1.out.2.1.size)))
      have HM4 := Lib.hid hm4
      clear hg3 hg4 hm4 hhh HM1
      go_wp2_with (first
        | (at_builtin
           refine list_append_at rfl (.tmp 12) (.tmp 16) 22 rfl w.heap.size 35 i0 (.agg #[.int .i64 0, .string ⟨#[]⟩, .int .i64 0, .int .i64 0]) 4 40 Try.underlying22 HI.out.1 HI.out.2.1 HI.out.2.2.1 HI.out.2.2.2 rfl (by omega)
             rfl H3.out.1 (A := some ⟨w3.heap.size, 0, none⟩) (m := 1) (c := 1) rfl (Rs.lit htL HM4.out [(⟨hk, hkey, ha, hsz⟩ : Ht)] rfl (n := 1) rfl).row (fun h => by cases h) (fun u hu => htE_one ⟨hk, hkey, ha, hsz⟩ u (by simpa using hu)) (j + 1) rfl (by unfold maxLen; omega) (by omega) H3.out.2.size ?_
           intro A5 c5 w5 ho5 hg5 _
           have H5 := Lib.hid (And.intro ho5 (below_append H3.out.2 hg5 H3.out.2.size (fun g hg => (owned_lt3 H3.out.1 hg).1)))
           clear ho5 hg5)
        | fail)
      go_roundw
      case rel => exact ⟨j + 1, A5, c5, by omega, by go_num, rfl, Lib.hid (by rw [HQ.out.1]; simpa using H5.out.1), Lib.hid H5.out.2⟩
      case measure => simp [intOf]; omega
    · obtain rfl : j = n := by omega
      have hall : ts.take j = ts := List.take_of_length_le (by omega)
      rw [hall] at HO
      have HF := Lib.hid (And.intro HO.out HG.out)
      clear hall
      go_wp2_with (fail)
      go_ret
      exact ⟨B, cb, rfl, HF.out.1, HF.out.2⟩
end Go.Proofs.Ytdjlhdeejpndcaa

