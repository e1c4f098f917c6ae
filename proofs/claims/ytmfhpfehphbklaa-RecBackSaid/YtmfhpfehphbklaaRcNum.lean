/-
  The walks of rec's number (of made), and of the answer's num.
-/
import Derived.Test.YtmfhpfehphbklaaLocs
import Derived.Test.YtmfhpfehphbklaaRcApp
import Derived.OwnWalk
import Derived.LoopTactic
import Derived.IntWalk
import Derived.Lib.Hide
namespace Go.Proofs.Ytmfhpfehphbklaa
open Go.RowKit
set_option linter.unusedSimpArgs false

theorem numB_get (x : Int) : ∀ (k j i : Nat), k = j + 1 + i → (numB x k)[j]? = some (byteI (x / 256 ^ i))
  | 0, j, i, h => by omega
  | k + 1, 0, i, h => by
    obtain rfl : k = i := by omega
    rfl
  | k + 1, j + 1, i, h => by
    rw [numB, List.getElem?_cons_succ]
    exact numB_get x k j i (by omega)
theorem numB_next (x : Int) (k j i : Nat) (h : k = j + 1 + i) : (numB x k).take (j + 1) = (numB x k).take j ++ [byteI (x / 256 ^ i)] := by
  have hl : j < (numB x k).length := by rw [numB_length]; omega
  have hg := numB_get x k j i h
  rw [List.getElem?_eq_getElem hl, Option.some.injEq] at hg
  rw [List.take_succ_eq_append_getElem hl, hg]


set_option maxRecDepth 100000 in
set_option maxHeartbeats 4000000 in
theorem number_own (base : Nat) (A0 : Option Addr) (n0 c0 : Nat) (xs : List UInt8) (x : Int) (k : Nat) (w : World) (ho : w.ownsRow base 5 1 (.slice A0 n0 c0) n0 (xs.map byteV)) (hb : base ≤ w.heap.size) (hn : n0 ≤ 1000000) (hk : k ≤ 8) :
    Calls Try.prog 91 #[.slice A0 n0 c0, .int .i64 x, .int .i64 (k : Int)] w fun e w' => ∃ A' c', e = .returned (.slice A' (n0 + k) c') ∧ w'.ownsRow base 5 1 (.slice A' (n0 + k) c') (n0 + k) ((xs ++ numB x k).map byteV) ∧ Below base w w' ∧ Stay w w' := by
  have HO := Lib.hid ho
  clear ho
  have hk1 : IntKind.i64.wrap ((k : Int) - 1) = (k : Int) - 1 := IntWalk.i64_in _ ⟨by omega, by omega⟩
  go_enter Try.func91, Try.ntmps91
  go_wp2_with (fail)
  go_loopw [0, 7] (fun m i wr => ∃ (A : Option Addr) (c j n : Nat), j ≤ k ∧ i = .int .i64 ((k : Int) - 1 - (j : Int)) ∧ m = .slice A n c ∧ Hid (n = n0 + j) ∧ Hid (wr.ownsRow base 5 1 (.slice A n c) n ((xs ++ (numB x k).take j).map byteV)) ∧ Hid (Below base w wr ∧ Stay w wr)) (fun _ i _ => (intOf i + 1).toNat)
  case atStart => exact ⟨A0, c0, 0, n0, by omega, by simp, rfl, Lib.hid rfl, Lib.hid (by simpa using HO.out), Lib.hid ⟨Below.refl _ _, Stay.refl _⟩⟩
  case round =>
    obtain ⟨A, c, j, n, hj, rfl, rfl, HN, HR, HB⟩ := hrel
    by_cases hlt : j < k
    · obtain ⟨i, hi⟩ : ∃ i : Nat, k = j + 1 + i := ⟨k - (j + 1), by omega⟩
      have e1 : (k : Int) - 1 - (j : Int) = (i : Int) := by omega
      have e2 : IntKind.i64.wrap (8 * (i : Int)) = 8 * (i : Int) := IntWalk.i64_in _ ⟨by omega, by omega⟩
      have e3 : wrap64 (8 * (i : Int)) = 8 * (i : Int) := by rw [← IntWalk.i64_left]; exact e2
      have e4 : IntKind.i64.wrap ((i : Int) - 1) = (i : Int) - 1 := IntWalk.i64_in _ ⟨by omega, by omega⟩
      rw [e1]
      have h0 : (0 : Int) ≤ (i : Int) := by omega
      have h7 : i ≤ 7 := by omega
      have hby : x / 2 ^ (8 * i) % 256 = ((byteI (x / 256 ^ i)).toNat : Int) := by
        rw [byteI_nat, show (2 : Int) ^ (8 * i) = 256 ^ i by rw [Int.pow_mul]; rfl]
      have hnx := numB_next x k j i hi
      generalize byteI (x / 256 ^ i) = b at *
      have HX := Lib.hid hnx
      have HI := Lib.hid hi
      have hm := Whole.made wr 5 #[.int .u8 (b.toNat : Int)]
      have HM := Lib.hid (Whole.sl hm [b] rfl (n := 1) rfl)
      have HG := Lib.hid (owned_grow HR.out (grows_alloc wr (.cells #[.int .u8 (b.toNat : Int)] 5)))
      clear hnx hm hi e1
      go_wp2_with (at_builtin
                   refine list_app isSl_made isSl_made rfl (.tmp 14) (.tmp 20) rfl (base := base) rfl HG.out (A := some ⟨wr.heap.size, 0, none⟩) (m := 1) (c := 1) rfl HM.out (n + 1) rfl (by have := HN.out; omega) (by have := HB.out.1.size; simp; omega) ?_
                   intro A2 c2 w2 ho2 hb2 hs2
                   have HO2 := Lib.hid ho2
                   have HB2 := Lib.hid (And.intro (Below.trans (HB.out.1.alloc (Nat.le_trans hb HB.out.1.size) _) hb2) (Stay.trans HB.out.2 (Stay.trans (Stay.grow (grows_alloc _ _)) hs2)))
                   clear ho2 hb2 hs2)
      go_roundw
      case rel => exact ⟨A2, c2, j + 1, n + 1, by omega, by (have := HI.out; congr 1; omega), rfl, Lib.hid (by have := HN.out; omega), Lib.hid (by rw [HX.out, ← List.append_assoc]; exact HO2.out), HB2⟩
      case measure => (simp [intOf] <;> omega)
    · obtain rfl : j = k := by omega
      have e1 : (j : Int) - 1 - (j : Int) = -1 := by omega
      rw [e1]
      have HR' := HR.out
      rw [List.take_of_length_le (by rw [numB_length]; omega), HN.out] at HR'
      have hN := HN.out
      subst hN
      have HF := Lib.hid HR'
      clear HR'
      go_wp2_with (fail)
      go_ret
      exact ⟨A, c, rfl, by simpa using HF.out, HB.out⟩


end Go.Proofs.Ytmfhpfehphbklaa
