import Derived.Test.YtlldcogkcjnejaaGreatMG21
import Derived.Test.YtlldcogkcjnejaaGreatMG22
set_option linter.unusedSimpArgs false
namespace Go.Proofs.YtlldcogkcjnejaaGreat
open Go.RowKit
theorem Zh2 (l : List UInt8) : l = [] ↔ l.length < 1 := by
 rw [← List.length_eq_zero_iff]
 omega
set_option maxRecDepth 100000 in
set_option maxHeartbeats 8000000 in
theorem Zc7 (kd : Int) (ks : List UInt8) (id no size : Int) (LA : Option Addr) (ln lc : Nat) (BA : Option Addr) (bn bc : Nat) (ls : List Lc) (bs : List UInt8) (w : World) (hin : RcIn w LA ln lc BA bn bc (⟨kd, ks, id, no, size, ls, bs⟩ : Rc)) :
 Calls Tryz.prog 61 #[.agg #[.int .i64 kd, .string ⟨ks.toArray⟩, .int .i64 id, .int .i64 no, .int .i64 size, .slice LA ln lc, .slice BA bn bc]] w fun e w' => e = .returned (.bool (decide (Zx (⟨kd, ks, id, no, size, ls, bs⟩ : Rc)))) ∧ Below w.heap.size w w' := by
 have hl1 := hin.locs.len
 have hl2 := hin.sl.len
 dsimp only at hl1 hl2
 have hss := Yy ks
 have HL := Lib.hid hin.locs
 obtain ⟨q, hq⟩ : ∃ q, decide ((1 ≤ size ∧ size ≤ 65536) ∧ Yl ls size) = q := ⟨_, rfl⟩
 obtain ⟨p, hp⟩ : ∃ p, decide (Zx (⟨kd, ks, id, no, size, ls, bs⟩ : Rc)) = p := ⟨_, rfl⟩
 have hp' : Zx (⟨kd, ks, id, no, size, ls, bs⟩ : Rc) ↔ p = true := by rw [← hp, decide_eq_true_eq]
 have hq' : ((1 ≤ size ∧ size ≤ 65536) ∧ Yl ls size) ↔ q = true := by rw [← hq, decide_eq_true_eq]
 unfold Zx Jf Zbd Yx Zbe Bare KeyOk IdOk at hp'
 dsimp only at hp'
 rw [hp]
 have HQ := Lib.hid hq
 have HP := Lib.hid (And.intro hp' hq')
 have HS := Lib.hid (And.intro hl1 (And.intro hl2 hss))
 clear hin hp hp' hq hq' hl1 hl2
 by_cases h1 : kd = 1
 ·subst h1
  go_enter Tryz.func61, Tryz.ntmps61
  go_wp2_with (first
   | (go_at_call 105
      refine (Zaf _ _ _ _ ls _ (HL.out.grow (Zb _ _))).mono ?_
      rintro e w1 ⟨rfl, rfl⟩
      rw [HQ.out])
   | go_in)
  all_goals
   go_ret
   refine ⟨Z5 ?_, Zb _ _⟩
   rw [Bool.eq_iff_iff]
   refine Iff.trans ?_ HP.out.1
   obtain ⟨g3, g4, g5⟩ := HS.out
   rw [g3, g4]
   have hq2 := HP.out.2
   clear HP HL HQ HS
   simp [Jv, -Nat.lt_one_iff, Yy, -List.length_eq_zero_iff, Zh2] at *
   first
    | omega
    | (cases q <;> by_cases LO : Yl ls size <;> simp [LO] at * <;> omega)
 by_cases h2 : kd = 2
 ·subst h2
  go_enter Tryz.func61, Tryz.ntmps61
  go_wp2_with (first
   | (go_at_call 105
      refine (Zaf _ _ _ _ ls _ (HL.out.grow (Zb _ _))).mono ?_
      rintro e w1 ⟨rfl, rfl⟩
      rw [HQ.out])
   | go_in)
  all_goals
   go_ret
   refine ⟨Z5 ?_, Zb _ _⟩
   rw [Bool.eq_iff_iff]
   refine Iff.trans ?_ HP.out.1
   obtain ⟨g3, g4, g5⟩ := HS.out
   rw [g3, g4]
   have hq2 := HP.out.2
   clear HP HL HQ HS
   simp [Jv, -Nat.lt_one_iff, Yy, -List.length_eq_zero_iff, Zh2] at *
   first
    | omega
    | (cases q <;> by_cases LO : Yl ls size <;> simp [LO] at * <;> omega)
 by_cases h3 : kd = 3
 ·subst h3
  go_enter Tryz.func61, Tryz.ntmps61
  go_wp2_with (first
   | (go_at_call 105
      refine (Zaf _ _ _ _ ls _ (HL.out.grow (Zb _ _))).mono ?_
      rintro e w1 ⟨rfl, rfl⟩
      rw [HQ.out])
   | go_in)
  all_goals
   go_ret
   refine ⟨Z5 ?_, Zb _ _⟩
   rw [Bool.eq_iff_iff]
   refine Iff.trans ?_ HP.out.1
   obtain ⟨g3, g4, g5⟩ := HS.out
   rw [g3, g4]
   have hq2 := HP.out.2
   clear HP HL HQ HS
   simp [Jv, -Nat.lt_one_iff, Yy, -List.length_eq_zero_iff, Zh2] at *
   first
    | omega
    | (cases q <;> by_cases LO : Yl ls size <;> simp [LO] at * <;> omega)
 by_cases h4 : kd = 4
 ·subst h4
  go_enter Tryz.func61, Tryz.ntmps61
  go_wp2_with (first
   | (go_at_call 105
      refine (Zaf _ _ _ _ ls _ (HL.out.grow (Zb _ _))).mono ?_
      rintro e w1 ⟨rfl, rfl⟩
      rw [HQ.out])
   | go_in)
  all_goals
   go_ret
   refine ⟨Z5 ?_, Zb _ _⟩
   rw [Bool.eq_iff_iff]
   refine Iff.trans ?_ HP.out.1
   obtain ⟨g3, g4, g5⟩ := HS.out
   rw [g3, g4]
   have hq2 := HP.out.2
   clear HP HL HQ HS
   simp [Jv, -Nat.lt_one_iff, Yy, -List.length_eq_zero_iff, Zh2] at *
   first
    | omega
    | (cases q <;> by_cases LO : Yl ls size <;> simp [LO] at * <;> omega)
 have e1 : (kd == 1) = false := by simpa using h1
 have e2 : (kd == 2) = false := by simpa using h2
 have e3 : (kd == 3) = false := by simpa using h3
 have e4 : (kd == 4) = false := by simpa using h4
 go_enter Tryz.func61, Tryz.ntmps61
 go_wp2_with (first
  | (go_at_call 105
     refine (Zaf _ _ _ _ ls _ (HL.out.grow (Zb _ _))).mono ?_
     rintro e w1 ⟨rfl, rfl⟩
     rw [HQ.out])
  | go_in)
 all_goals
  go_ret
  refine ⟨Z5 ?_, Zb _ _⟩
  rw [Bool.eq_iff_iff]
  refine Iff.trans ?_ HP.out.1
  obtain ⟨g3, g4, g5⟩ := HS.out
  rw [g3, g4]
  have hq2 := HP.out.2
  clear HP HL HQ HS
  simp [Jv, -Nat.lt_one_iff, Yy, -List.length_eq_zero_iff, Zh2] at *
  first
   | omega
   | (cases q <;> by_cases LO : Yl ls size <;> simp [LO] at * <;> omega)
open Go.Lib (hid)
set_option maxRecDepth 100000 in
set_option maxHeartbeats 4000000 in
theorem Y2 (base : Nat) (A0 : Option Addr) (n0 c0 : Nat) (xs : List UInt8) (x : Int) (k : Nat) (w : World) (ho : w.ownsRow base 5 1 (.slice A0 n0 c0) n0 (xs.map byteV)) (hb : base ≤ w.heap.size) (hn : n0 ≤ 1000000) (hk : k ≤ 8) :
 Calls Tryz.prog 106 #[.slice A0 n0 c0, .int .i64 x, .int .i64 (k : Int)] w fun e w' => ∃ A' c', e = .returned (.slice A' (n0 + k) c') ∧ w'.ownsRow base 5 1 (.slice A' (n0 + k) c') (n0 + k) ((xs ++ numB x k).map byteV) ∧ Below base w w' ∧ Stay w w' := by
 have HO := hid ho
 clear ho
 have hk1 : IntKind.i64.wrap ((k : Int) - 1) = (k : Int) - 1 := IntWalk.i64_in _ ⟨by omega, by omega⟩
 go_enter Tryz.func106, Tryz.ntmps106
 go_wp2_with (fail)
 go_loopw [0, 7] (fun m i wr => ∃ (A : Option Addr) (c j n : Nat), j ≤ k ∧ i = .int .i64 ((k : Int) - 1 - (j : Int)) ∧ m = .slice A n c ∧ Hid (n = n0 + j) ∧ Hid (wr.ownsRow base 5 1 (.slice A n c) n ((xs ++ (numB x k).take j).map byteV)) ∧ Hid (Below base w wr ∧ Stay w wr)) (fun _ i _ => (intOf i + 1).toNat)
 case atStart => exact ⟨A0, c0, 0, n0, by omega, by simp, rfl, hid rfl, hid (by simpa using HO.out), hid ⟨Below.refl _ _, Stay.refl _⟩⟩
 case round =>
  obtain ⟨A, c, j, n, hj, rfl, rfl, HN, HR, HB⟩ := hrel
  by_cases hlt : j < k
  ·obtain ⟨i, hi⟩ : ∃ i : Nat, k = j + 1 + i := ⟨k - (j + 1), by omega⟩
   have e1 : (k : Int) - 1 - (j : Int) = (i : Int) := by omega
   have e2 : IntKind.i64.wrap (8 * (i : Int)) = 8 * (i : Int) := IntWalk.i64_in _ ⟨by omega, by omega⟩
   have e3 : wrap64 (8 * (i : Int)) = 8 * (i : Int) := by rw [← IntWalk.i64_left]; exact e2
   have e4 : IntKind.i64.wrap ((i : Int) - 1) = (i : Int) - 1 := IntWalk.i64_in _ ⟨by omega, by omega⟩
   rw [e1]
   have h0 : (0 : Int) ≤ (i : Int) := by omega
   have h7 : i ≤ 7 := by omega
   have hby : x / 2 ^ (8 * i) % 256 = ((byteI (x / 256 ^ i)).toNat : Int) := by
    rw [Z9, show (2 : Int) ^ (8 * i) = 256 ^ i by rw [Int.pow_mul]; rfl]
   have hnx := Zhv x k j i hi
   generalize byteI (x / 256 ^ i) = b at *
   have HX := hid hnx
   have HI := hid hi
   have hm := Whole.made wr 5 #[.int .u8 (b.toNat : Int)]
   have HM := hid (Whole.sl hm [b] rfl (n := 1) rfl)
   have HG := hid (Zd HR.out (Zb wr (.cells #[.int .u8 (b.toNat : Int)] 5)))
   clear hnx hm hi e1
   go_wp2_with (at_builtin
                refine Y8 isSl_bytes isSl_bytes rfl (.tmp 14) (.tmp 20) rfl (base := base) rfl HG.out (A := some ⟨wr.heap.size, 0, none⟩) (m := 1) (c := 1) rfl HM.out (n + 1) rfl (by have := HN.out; omega) (by have := HB.out.1.size; simp; omega) ?_
                intro A2 c2 w2 ho2 hb2 hs2
                have HO2 := hid ho2
                have HB2 := hid (And.intro (Below.trans (HB.out.1.alloc (Nat.le_trans hb HB.out.1.size) _) hb2) (Stay.trans HB.out.2 (Stay.trans (Stay.grow (Zb _ _)) hs2)))
                clear ho2 hb2 hs2)
   go_roundw
   case rel => exact ⟨A2, c2, j + 1, n + 1, by omega, by (have := HI.out; congr 1; omega), rfl, hid (by have := HN.out; omega), hid (by rw [HX.out, ← List.append_assoc]; exact HO2.out), HB2⟩
   case measure => (simp [intOf] <;> omega)
  ·obtain rfl : j = k := by omega
   have e1 : (j : Int) - 1 - (j : Int) = -1 := by omega
   rw [e1]
   have HR' := HR.out
   rw [List.take_of_length_le (by rw [Zm]; omega), HN.out] at HR'
   have hN := HN.out
   subst hN
   have HF := hid HR'
   clear HR'
   go_wp2_with (fail)
   go_ret
   exact ⟨A, c, rfl, by simpa using HF.out, HB.out⟩
end Go.Proofs.YtlldcogkcjnejaaGreat
