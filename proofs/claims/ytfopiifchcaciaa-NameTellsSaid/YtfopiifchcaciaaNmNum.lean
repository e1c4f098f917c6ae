/-
  The walk of name's number: what digits tell.
-/
import Derived.Test.YtfopiifchcaciaaNmOf
import Derived.Lib.OthersKept
namespace Go.Proofs.Ytfopiifchcaciaa
open Go.RowKit
set_option linter.unusedSimpArgs false
set_option linter.unusedVariables false

/-- What number answers. -/
def numP (l : List UInt8) : Int × Bool := if l.all isDig = true then ((val 0 l : Nat), true) else (0, false)
theorem val_take (l : List UInt8) (j : Nat) (c : UInt8) (h : l[j]? = some c) : val 0 (l.take (j + 1)) = 10 * val 0 (l.take j) + (c.toNat - 48) ∧ ((l.take (j + 1)).all isDig = ((l.take j).all isDig && isDig c)) := by
  have hj : j < l.length := by
    rcases Nat.lt_or_ge j l.length with h' | h'
    · exact h'
    · rw [List.getElem?_eq_none h'] at h; cases h
  have e : l.take (j + 1) = l.take j ++ [c] := by
    rw [List.take_succ_eq_append_getElem hj]
    rw [List.getElem?_eq_getElem hj, Option.some.injEq] at h
    rw [h]
  rw [e]
  refine ⟨?_, by simp⟩
  unfold val
  rw [List.foldl_append]
  rfl
theorem not_dig (l : List UInt8) (j : Nat) (c : UInt8) (h : l[j]? = some c) (hd : isDig c = false) : numP l = (0, false) := by
  unfold numP
  rw [if_neg]
  intro ha
  have := List.all_eq_true.1 ha c (List.mem_of_getElem? h)
  rw [hd] at this
  cases this
theorem byte_at (s : ByteArray) (j : Nat) (h : j < s.size) : s.data.toList[j]? = some (s[j]'h) := by
  rw [Array.getElem?_toList]
  exact Array.getElem?_eq_getElem h

theorem run_next_ascii_at' {P : Program} (w : World) (k : Nat) (s : ByteArray) (pos : Nat) (ty : TypeId) (c : UInt8) (hk : w.heap[k]? = some (.stringIter s pos)) (h : pos < s.size) (hc : s[pos]'h = c) (ha : c.toNat < 128) :
    (Instr.next (.pointer (some ⟨k, 0, none⟩)) true ty).run P w = .ok (.tuple #[.bool true, .int .i64 pos, .int .i32 c.toNat]) (w.iterAt k s (pos + 1)) := by
  subst hc
  exact Lib.run_next_ascii_at w k s pos ty hk h ha
theorem run_next_high_at {P : Program} (w : World) (k : Nat) (s : ByteArray) (pos : Nat) (ty : TypeId) (hk : w.heap[k]? = some (.stringIter s pos)) (h : pos < s.size) (ha : 128 ≤ (s[pos]'h).toNat) :
    ∃ (r q : Nat), (Instr.next (.pointer (some ⟨k, 0, none⟩)) true ty).run P w = .ok (.tuple #[.bool true, .int .i64 pos, .int .i32 (r : Int)]) (w.iterAt k s q) ∧ 128 ≤ r ∧ r ≤ 2147483647 :=
  ⟨_, _, Lib.run_next_any_at w k s pos ty hk h, (decode_high s pos h ha).1, decode_le s pos⟩

set_option maxRecDepth 100000 in
set_option maxHeartbeats 4000000 in
theorem number_any (s : ByteArray) (hs : s.size ≤ 8) (w : World) :
    Calls Try.prog 27 #[.string s] w fun e w' => e = .returned (.tuple #[.int .i64 (numP s.data.toList).1, .bool (numP s.data.toList).2]) ∧ Grows w w' := by
  have hlen : s.data.toList.length = s.size := Array.length_toList
  go_enter Try.func27, Try.ntmps27
  go_wp2_with (fail)
  go_loopw [4, 6] (fun a b wr => ∃ (j : Nat) (X : Nat), j ≤ s.size ∧ a = .int .i64 (X : Int) ∧ Hid (X = val 0 (s.data.toList.take j)) ∧ Hid ((s.data.toList.take j).all isDig = true) ∧ Hid (wr.heap[w.heap.size]? = some (.stringIter s j)) ∧ Hid (Grows w wr)) (fun _ _ wr => match wr.heap[w.heap.size]? with | some (.stringIter _ j) => s.size - j | _ => 0)
  case atStart => exact ⟨0, 0, by omega, rfl, Lib.hid rfl, Lib.hid rfl, Lib.hid (World.iter_heap w s 0), Lib.hid (grows_alloc w _)⟩
  case round =>
    obtain ⟨j, X, hj, rfl, HX, HA, HI, HB⟩ := hrel
    by_cases hlt : j < s.size
    · have hb := byte_at s j hlt
      obtain ⟨c, hc⟩ : ∃ c, s[j]'hlt = c := ⟨_, rfl⟩
      rw [hc] at hb
      obtain ⟨v1, v2⟩ := val_take s.data.toList j c hb
      have hcl : c.toNat < 256 := c.toNat_lt
      have hXl := val_lt (s.data.toList.take j) 0 HA.out
      have hpw : 10 ^ (s.data.toList.take j).length ≤ 10 ^ 7 := Nat.pow_le_pow_right (by omega) (by rw [List.length_take, hlen]; omega)
      rw [← HX.out] at hXl
      have hXb : X < 10000000 := by omega
      by_cases hasc : c.toNat < 128
      · have hnx := fun ty => run_next_ascii_at' (P := Try.prog) wr w.heap.size s j ty c HI.out hlt hc hasc
        have hnew := Lib.iterAt_heap wr w.heap.size s j (j + 1) HI.out
        have hbel := Lib.below_iterAt HB.out (Nat.le_refl _) s (j + 1)
        generalize wr.iterAt w.heap.size s (j + 1) = w2 at *
        have HV1 := Lib.hid v1
        have HV2 := Lib.hid v2
        have HN := Lib.hid hnew
        have HBE := Lib.hid hbel
        have HB0 := Lib.hid hb
        clear v1 v2 hnew hbel hb hXl hpw hc
        have hdig : isDig c = decide (48 ≤ c.toNat ∧ c.toNat ≤ 57) := rfl
        obtain ⟨C, hC⟩ : ∃ C, c.toNat = C := ⟨_, rfl⟩
        rw [hC] at hnx HV1 hcl hdig
        by_cases hd : 48 ≤ C ∧ C ≤ 57
        · obtain ⟨d, hd2⟩ : ∃ d : Nat, C = 48 + d := ⟨C - 48, by omega⟩
          subst hd2
          have hd3 : d ≤ 9 := by omega
          rw [decide_eq_true hd] at hdig
          have HD := Lib.hid hdig
          have e1 : ((48 + d : Nat) : Int) = 48 + (d : Int) := by omega
          rw [e1] at hnx
          have h1 : ¬ (48 + (d : Int)) < 48 := by omega
          have h2 : ¬ (57 : Int) < 48 + (d : Int) := by omega
          have e2 : IntKind.i32.wrap (48 + (d : Int) - 48) = (d : Int) := by
            rw [show (48 + (d : Int) - 48) = (d : Int) by omega]
            exact IntWalk.i32_in _ ⟨by omega, by omega⟩
          have HC := Lib.hid hC
          clear hdig hd e1 hC hasc
          go_wp2_with (fail)
          refine ⟨⟨j + 1, 10 * X + d, by omega, by congr 1, Lib.hid ?_, Lib.hid ?_, HN, HBE⟩, ?_⟩
          · rw [HV1.out, HX.out]
            omega
          · rw [HV2.out, HA.out, HD.out]
            rfl
          · rw [HN.out, HI.out]
            dsimp only
            omega
        · rw [decide_eq_false hd] at hdig
          have HF := Lib.hid (not_dig _ j c HB0.out hdig)
          clear hdig hC hasc
          by_cases h1 : (C : Int) < 48
          · go_wp2_with (fail)
            go_ret2
            rw [HF.out]
            exact ⟨rfl, HBE.out⟩
          · have h2 : (57 : Int) < (C : Int) := by omega
            go_wp2_with (fail)
            go_ret2
            rw [HF.out]
            exact ⟨rfl, HBE.out⟩
      · have hh : 128 ≤ (s[j]'hlt).toNat := by rw [hc]; omega
        have hnx := fun ty => run_next_high_at (P := Try.prog) wr w.heap.size s j ty HI.out hlt hh
        obtain ⟨r, q, hr1, hr2⟩ := run_next_high_at (P := Try.prog) wr w.heap.size s j 3 HI.out hlt hh
        have hnx : ∀ ty, (Instr.next (.pointer (some ⟨w.heap.size, 0, none⟩)) true ty).run Try.prog wr = .ok (.tuple #[.bool true, .int .i64 j, .int .i32 (r : Int)]) (wr.iterAt w.heap.size s q) := fun ty => hr1
        have hbel := Lib.below_iterAt HB.out (Nat.le_refl _) s q
        have hdig : isDig c = false := decide_eq_false (by omega)
        have HF := Lib.hid (not_dig _ j c hb hdig)
        generalize wr.iterAt w.heap.size s q = w2 at *
        have HBE := Lib.hid hbel
        have h1 : ¬ (r : Int) < 48 := by omega
        have h2 : (57 : Int) < (r : Int) := by omega
        clear v1 v2 hbel hb hXl hpw hc hasc hdig hh hr1 hr2
        go_wp2_with (fail)
        go_ret2
        rw [HF.out]
        exact ⟨rfl, HBE.out⟩
    · obtain rfl : j = s.size := by omega
      have hnx := fun ty => Lib.run_next_end_at (P := Try.prog) wr w.heap.size s s.size ty HI.out (Nat.lt_irrefl _)
      have he : numP s.data.toList = ((X : Int), true) := by
        have h1 := HX.out
        have h2 := HA.out
        rw [List.take_of_length_le (by omega)] at h1 h2
        unfold numP
        rw [if_pos h2, h1]
      have HE := Lib.hid he
      clear he
      go_wp2_with (fail)
      go_ret2
      rw [HE.out]
      exact ⟨rfl, HB.out⟩
end Go.Proofs.Ytfopiifchcaciaa
