/-
  The walks of name's digitsOf and Of, and of the answer's Of.
-/
import Derived.Test.YtfopiifchcaciaaNmPlain
import Derived.Test.YtfopiifchcaciaaSteps
import Derived.LoopTactic
import Derived.IntWalk
import Derived.OwnWalk
import Derived.WalkLawsBesides
import Derived.Lib.Hide
import Derived.Lib.LazyBuf
namespace Go.Proofs.Ytfopiifchcaciaa
open Go.RowKit
set_option linter.unusedSimpArgs false
set_option linter.unusedVariables false

def digitsP (k : Int) : Int × Int := if k = 1 ∨ k = 2 then (8, 99999999) else if k = 3 ∨ k = 4 then (0, 0) else (0, -1)
theorem digits_any (k : Int) (w : World) : Calls Try.prog 26 #[.int .i64 k] w fun e w' => e = .returned (.tuple #[.int .i64 (digitsP k).1, .int .i64 (digitsP k).2]) ∧ w = w' := by
  by_cases h1 : k = 1
  · subst h1
    go_enter Try.func26, Try.ntmps26
    go_wp2_with (fail)
    go_ret2
    exact ⟨rfl, rfl⟩
  by_cases h2 : k = 2
  · subst h2
    go_enter Try.func26, Try.ntmps26
    go_wp2_with (fail)
    go_ret2
    exact ⟨rfl, rfl⟩
  by_cases h3 : k = 3
  · subst h3
    go_enter Try.func26, Try.ntmps26
    go_wp2_with (fail)
    go_ret2
    exact ⟨rfl, rfl⟩
  by_cases h4 : k = 4
  · subst h4
    go_enter Try.func26, Try.ntmps26
    go_wp2_with (fail)
    go_ret2
    exact ⟨rfl, rfl⟩
  go_enter Try.func26, Try.ntmps26
  go_wp2_with (fail)
  go_ret2
  have e : digitsP k = (0, -1) := by unfold digitsP; rw [if_neg (by omega), if_neg (by omega)]
  rw [e]
  exact ⟨rfl, rfl⟩

/-- The name's bytes when i digits have been written. -/
def nameV (c : UInt8) (n i : Nat) : Array Value := ((c :: List.replicate (8 - i) 0 ++ digs n i).map byteV).toArray
theorem nameV_size (c : UInt8) (n i : Nat) (h : i ≤ 8) : (nameV c n i).size = 9 := by
  simp [nameV, digs_length]
  omega
theorem rep_set (m : Nat) (x : UInt8) (r : List UInt8) : ∀ c : UInt8, (c :: List.replicate (m + 1) 0 ++ r).set (m + 1) x = c :: List.replicate m 0 ++ x :: r := by
  induction m with
  | zero => intro c; rfl
  | succ m ih =>
    intro c
    have := ih 0
    rw [List.replicate_succ, List.cons_append, List.set_cons_succ]
    rw [this]
    simp [List.replicate_succ]
theorem nameV_next (c : UInt8) (n i : Nat) (h : i < 8) : (nameV c n i).setIfInBounds (8 - i) (.int .u8 ((UInt8.ofNat (48 + n / 10 ^ i % 10)).toNat : Int)) = nameV c n (i + 1) := by
  obtain ⟨m, hm⟩ : ∃ m, 8 - i = m + 1 := ⟨8 - i - 1, by omega⟩
  unfold nameV
  rw [hm, show 8 - (i + 1) = m by omega, digs, ← rep_set m _ (digs n i) c, List.map_set, List.setIfInBounds_toArray]
  rfl


set_option maxRecDepth 100000 in
set_option maxHeartbeats 4000000 in
theorem of_num1 (n : Nat) (hn : n ≤ 99999999) (w : World) :
    Calls Try.prog 12 #[.int .i64 1, .int .i64 (n : Int)] w fun e w' => e = .returned (.string ⟨(115 :: digs n 8 : List UInt8).toArray⟩) ∧ Grows w w' := by
  have hmk : ∀ w, (Instr.makeSlice 38 (.int .i64 9) (.int .i64 9)).run Try.prog w = .ok (.slice (some ⟨w.heap.size, 0, none⟩) 9 9) (w.alloc (.cells #[.int .u8 0, .int .u8 0, .int .u8 0, .int .u8 0, .int .u8 0, .int .u8 0, .int .u8 0, .int .u8 0, .int .u8 0] 5)) := fun _ => by kernel_rfl
  have hw0 := Whole.made w 5 #[.int .u8 0, .int .u8 0, .int .u8 0, .int .u8 0, .int .u8 0, .int .u8 0, .int .u8 0, .int .u8 0, .int .u8 0]
  have hg0 := Grows.refl w |>.alloc (Nat.le_refl _) (.cells #[.int .u8 0, .int .u8 0, .int .u8 0, .int .u8 0, .int .u8 0, .int .u8 0, .int .u8 0, .int .u8 0, .int .u8 0] 5)
  obtain ⟨w0, he0⟩ : ∃ w0, w.alloc (.cells #[.int .u8 0, .int .u8 0, .int .u8 0, .int .u8 0, .int .u8 0, .int .u8 0, .int .u8 0, .int .u8 0, .int .u8 0] 5) = w0 := ⟨_, rfl⟩
  have hlt0 : w.heap.size < w0.heap.size := by rw [← he0]; simp
  have hmk1 := hmk w
  rw [he0] at hmk1 hw0 hg0
  have hcp : (Builtin.copy_ #[38, 9] 3 #[.slice (some ⟨w.heap.size, 0, none⟩) 9 9, .string ((⟨#[115, 104, 109, 116]⟩ : ByteArray).extract 0 1)]).run Try.prog w0 = .ok (goInt 1) (w0.setCell ⟨w.heap.size, 0, none⟩ (.int .u8 115)) := by
    rw [show (⟨#[115, 104, 109, 116]⟩ : ByteArray).extract 0 1 = ⟨#[115]⟩ by rfl]
    refine (run_copy_string (P := Try.prog) w0 38 9 3 5 w.heap.size 0 9 9 ⟨#[115]⟩ Try.underlying38 (fun _ => by kernel_rfl) (by decide) (fun j hj => ?_) (fun j hj => ?_)).trans rfl
    · have hj0 : j = 0 := Nat.lt_one_iff.1 hj
      subst hj0
      have := hw0.cell 0
      simp only [List.getElem?_toArray, List.getElem?_cons_zero] at this
      rw [Nat.zero_add, this]
      rfl
    · exact hw0.free _
  have hw1 := hw0.put 0 (.int .u8 115)
  have hg1 : Grows w (w0.setCell ⟨w.heap.size, 0, none⟩ (.int .u8 115)) := Below.setCell (p := ⟨w.heap.size, 0, none⟩) hg0 (Nat.le_refl _) _
  obtain ⟨w1, he1⟩ : ∃ w1, w0.setCell ⟨w.heap.size, 0, none⟩ (.int .u8 115) = w1 := ⟨_, rfl⟩
  rw [he1] at hcp hw1 hg1
  have hw2 : Whole w1 w.heap.size 5 (nameV 115 n 0) := hw1
  have HW := Lib.hid hw2
  have HG := Lib.hid hg1
  have hnn : ¬ (99999999 : Int) < (n : Int) := by omega
  have hn0 : ¬ (n : Int) < 0 := by omega
  clear hmk hw0 hg0 hw1 hg1 hw2 hlt0
  go_enter Try.func12, Try.ntmps12
  go_wp2_with (first | (go_at_call 26; refine (digits_any 1 _).mono ?_; rintro e w' ⟨rfl, rfl⟩; rw [show digitsP 1 = (8, 99999999) from rfl]) | fail)
  go_loopw [1, 31] (fun a i wr => ∃ (j : Nat), j ≤ 8 ∧ i = .int .i64 (j : Int) ∧ a = .int .i64 ((n / 10 ^ j : Nat) : Int) ∧ Hid (Whole wr w.heap.size 5 (nameV 115 n j)) ∧ Hid (Grows w wr)) (fun _ i _ => 8 - (intOf i).toNat)
  case atStart => exact ⟨0, by omega, rfl, by simp, HW, HG⟩
  case round =>
    obtain ⟨j, hj, rfl, rfl, HR, HB⟩ := hrel
    by_cases hlt : j < 8
    · have hlt' : (j : Int) < 8 := by omega
      obtain ⟨q, hq⟩ : ∃ q : Nat, 8 - j = q := ⟨_, rfl⟩
      obtain ⟨X, hX⟩ : ∃ X : Nat, n / 10 ^ j = X := ⟨_, rfl⟩
      have hX2 : n / 10 ^ (j + 1) = X / 10 := by rw [Nat.pow_succ, ← Nat.div_div_eq_div_mul, hX]
      have hXl : X ≤ 99999999 := by rw [← hX]; exact Nat.le_trans (Nat.div_le_self _ _) hn
      have hq1 : IntKind.i64.wrap (8 - (j : Int)) = (q : Int) := by rw [IntWalk.i64_in _ ⟨by omega, by omega⟩]; omega
      have hq2 : wrap64 (8 - (j : Int)) = (q : Int) := by rw [← IntWalk.i64_left]; exact hq1
      have hq9 : q < 9 := by omega
      have hcell := HR.out.cell q
      have hset := nameV_next 115 n j hlt
      rw [hX, hq] at hset
      obtain ⟨old, hold⟩ : ∃ old, (nameV 115 n j)[q]? = some old := ⟨_, Array.getElem?_eq_getElem (by rw [nameV_size 115 n j hj]; exact hq9)⟩
      rw [hold] at hcell
      have hfree := HR.out.free q
      have hput := HR.out.put q (.int .u8 ((UInt8.ofNat (48 + X % 10)).toNat : Int))
      rw [hset] at hput
      have HP := Lib.hid hput
      have hd : ((UInt8.ofNat (48 + X % 10)).toNat : Int) = 48 + (X : Int) % 10 := by
        rw [dig_nat _ (Nat.mod_lt _ (by omega))]
        omega
      rw [hd] at HP
      have hm1 : IntKind.i64.wrap ((X : Int).tmod 10) = (X : Int) % 10 := by rw [Int.tmod_eq_emod_of_nonneg (by omega), IntWalk.i64_in _ ⟨by omega, by omega⟩]
      have HX := Lib.hid hX
      have HX2 := Lib.hid hX2
      have HQ := Lib.hid hq
      rw [hX]
      clear hset hput hd hold hX hX2 hq
      go_wp2_with (fail)
      refine ⟨⟨j + 1, by omega, rfl, ?_, Lib.hid HP.out, Lib.hid (Below.setCell (p := ⟨w.heap.size, q, none⟩) HB.out (Nat.le_refl _) _)⟩, by simp [intOf]; omega⟩
      rw [HX2.out]
      rfl
    · obtain rfl : j = 8 := by omega
      have hs := run_string (HR.out.sl (115 :: digs n 8) (by unfold nameV; rfl) (n := 9) (by rw [List.length_cons, digs_length]))
      have HS := Lib.hid hs
      go_wp2_with (fail)
      go_ret
      exact ⟨rfl, HB.out⟩

set_option maxRecDepth 100000 in
set_option maxHeartbeats 4000000 in
theorem of_num2 (n : Nat) (hn : n ≤ 99999999) (w : World) :
    Calls Try.prog 12 #[.int .i64 2, .int .i64 (n : Int)] w fun e w' => e = .returned (.string ⟨(104 :: digs n 8 : List UInt8).toArray⟩) ∧ Grows w w' := by
  have hmk : ∀ w, (Instr.makeSlice 38 (.int .i64 9) (.int .i64 9)).run Try.prog w = .ok (.slice (some ⟨w.heap.size, 0, none⟩) 9 9) (w.alloc (.cells #[.int .u8 0, .int .u8 0, .int .u8 0, .int .u8 0, .int .u8 0, .int .u8 0, .int .u8 0, .int .u8 0, .int .u8 0] 5)) := fun _ => by kernel_rfl
  have hw0 := Whole.made w 5 #[.int .u8 0, .int .u8 0, .int .u8 0, .int .u8 0, .int .u8 0, .int .u8 0, .int .u8 0, .int .u8 0, .int .u8 0]
  have hg0 := Grows.refl w |>.alloc (Nat.le_refl _) (.cells #[.int .u8 0, .int .u8 0, .int .u8 0, .int .u8 0, .int .u8 0, .int .u8 0, .int .u8 0, .int .u8 0, .int .u8 0] 5)
  obtain ⟨w0, he0⟩ : ∃ w0, w.alloc (.cells #[.int .u8 0, .int .u8 0, .int .u8 0, .int .u8 0, .int .u8 0, .int .u8 0, .int .u8 0, .int .u8 0, .int .u8 0] 5) = w0 := ⟨_, rfl⟩
  have hlt0 : w.heap.size < w0.heap.size := by rw [← he0]; simp
  have hmk1 := hmk w
  rw [he0] at hmk1 hw0 hg0
  have hcp : (Builtin.copy_ #[38, 9] 3 #[.slice (some ⟨w.heap.size, 0, none⟩) 9 9, .string ((⟨#[115, 104, 109, 116]⟩ : ByteArray).extract 1 2)]).run Try.prog w0 = .ok (goInt 1) (w0.setCell ⟨w.heap.size, 0, none⟩ (.int .u8 104)) := by
    rw [show (⟨#[115, 104, 109, 116]⟩ : ByteArray).extract 1 2 = ⟨#[104]⟩ by rfl]
    refine (run_copy_string (P := Try.prog) w0 38 9 3 5 w.heap.size 0 9 9 ⟨#[104]⟩ Try.underlying38 (fun _ => by kernel_rfl) (by decide) (fun j hj => ?_) (fun j hj => ?_)).trans rfl
    · have hj0 : j = 0 := Nat.lt_one_iff.1 hj
      subst hj0
      have := hw0.cell 0
      simp only [List.getElem?_toArray, List.getElem?_cons_zero] at this
      rw [Nat.zero_add, this]
      rfl
    · exact hw0.free _
  have hw1 := hw0.put 0 (.int .u8 104)
  have hg1 : Grows w (w0.setCell ⟨w.heap.size, 0, none⟩ (.int .u8 104)) := Below.setCell (p := ⟨w.heap.size, 0, none⟩) hg0 (Nat.le_refl _) _
  obtain ⟨w1, he1⟩ : ∃ w1, w0.setCell ⟨w.heap.size, 0, none⟩ (.int .u8 104) = w1 := ⟨_, rfl⟩
  rw [he1] at hcp hw1 hg1
  have hw2 : Whole w1 w.heap.size 5 (nameV 104 n 0) := hw1
  have HW := Lib.hid hw2
  have HG := Lib.hid hg1
  have hnn : ¬ (99999999 : Int) < (n : Int) := by omega
  have hn0 : ¬ (n : Int) < 0 := by omega
  clear hmk hw0 hg0 hw1 hg1 hw2 hlt0
  go_enter Try.func12, Try.ntmps12
  go_wp2_with (first | (go_at_call 26; refine (digits_any 2 _).mono ?_; rintro e w' ⟨rfl, rfl⟩; rw [show digitsP 2 = (8, 99999999) from rfl]) | fail)
  go_loopw [1, 31] (fun a i wr => ∃ (j : Nat), j ≤ 8 ∧ i = .int .i64 (j : Int) ∧ a = .int .i64 ((n / 10 ^ j : Nat) : Int) ∧ Hid (Whole wr w.heap.size 5 (nameV 104 n j)) ∧ Hid (Grows w wr)) (fun _ i _ => 8 - (intOf i).toNat)
  case atStart => exact ⟨0, by omega, rfl, by simp, HW, HG⟩
  case round =>
    obtain ⟨j, hj, rfl, rfl, HR, HB⟩ := hrel
    by_cases hlt : j < 8
    · have hlt' : (j : Int) < 8 := by omega
      obtain ⟨q, hq⟩ : ∃ q : Nat, 8 - j = q := ⟨_, rfl⟩
      obtain ⟨X, hX⟩ : ∃ X : Nat, n / 10 ^ j = X := ⟨_, rfl⟩
      have hX2 : n / 10 ^ (j + 1) = X / 10 := by rw [Nat.pow_succ, ← Nat.div_div_eq_div_mul, hX]
      have hXl : X ≤ 99999999 := by rw [← hX]; exact Nat.le_trans (Nat.div_le_self _ _) hn
      have hq1 : IntKind.i64.wrap (8 - (j : Int)) = (q : Int) := by rw [IntWalk.i64_in _ ⟨by omega, by omega⟩]; omega
      have hq2 : wrap64 (8 - (j : Int)) = (q : Int) := by rw [← IntWalk.i64_left]; exact hq1
      have hq9 : q < 9 := by omega
      have hcell := HR.out.cell q
      have hset := nameV_next 104 n j hlt
      rw [hX, hq] at hset
      obtain ⟨old, hold⟩ : ∃ old, (nameV 104 n j)[q]? = some old := ⟨_, Array.getElem?_eq_getElem (by rw [nameV_size 104 n j hj]; exact hq9)⟩
      rw [hold] at hcell
      have hfree := HR.out.free q
      have hput := HR.out.put q (.int .u8 ((UInt8.ofNat (48 + X % 10)).toNat : Int))
      rw [hset] at hput
      have HP := Lib.hid hput
      have hd : ((UInt8.ofNat (48 + X % 10)).toNat : Int) = 48 + (X : Int) % 10 := by
        rw [dig_nat _ (Nat.mod_lt _ (by omega))]
        omega
      rw [hd] at HP
      have hm1 : IntKind.i64.wrap ((X : Int).tmod 10) = (X : Int) % 10 := by rw [Int.tmod_eq_emod_of_nonneg (by omega), IntWalk.i64_in _ ⟨by omega, by omega⟩]
      have HX := Lib.hid hX
      have HX2 := Lib.hid hX2
      have HQ := Lib.hid hq
      rw [hX]
      clear hset hput hd hold hX hX2 hq
      go_wp2_with (fail)
      refine ⟨⟨j + 1, by omega, rfl, ?_, Lib.hid HP.out, Lib.hid (Below.setCell (p := ⟨w.heap.size, q, none⟩) HB.out (Nat.le_refl _) _)⟩, by simp [intOf]; omega⟩
      rw [HX2.out]
      rfl
    · obtain rfl : j = 8 := by omega
      have hs := run_string (HR.out.sl (104 :: digs n 8) (by unfold nameV; rfl) (n := 9) (by rw [List.length_cons, digs_length]))
      have HS := Lib.hid hs
      go_wp2_with (fail)
      go_ret
      exact ⟨rfl, HB.out⟩

set_option maxRecDepth 100000 in
set_option maxHeartbeats 4000000 in
theorem of_one3 (w : World) :
    Calls Try.prog 12 #[.int .i64 3, .int .i64 0] w fun e w' => e = .returned (.string ⟨([109] : List UInt8).toArray⟩) ∧ Grows w w' := by
  have hmk : ∀ w, (Instr.makeSlice 38 (.int .i64 1) (.int .i64 1)).run Try.prog w = .ok (.slice (some ⟨w.heap.size, 0, none⟩) 1 1) (w.alloc (.cells #[.int .u8 0] 5)) := fun _ => by kernel_rfl
  have hw0 := Whole.made w 5 #[.int .u8 0]
  have hg0 := Grows.refl w |>.alloc (Nat.le_refl _) (.cells #[.int .u8 0] 5)
  obtain ⟨w0, he0⟩ : ∃ w0, w.alloc (.cells #[.int .u8 0] 5) = w0 := ⟨_, rfl⟩
  have hmk1 := hmk w
  rw [he0] at hmk1 hw0 hg0
  have hcp : (Builtin.copy_ #[38, 9] 3 #[.slice (some ⟨w.heap.size, 0, none⟩) 1 1, .string ((⟨#[115, 104, 109, 116]⟩ : ByteArray).extract 2 3)]).run Try.prog w0 = .ok (goInt 1) (w0.setCell ⟨w.heap.size, 0, none⟩ (.int .u8 109)) := by
    rw [show (⟨#[115, 104, 109, 116]⟩ : ByteArray).extract 2 3 = ⟨#[109]⟩ by rfl]
    refine (run_copy_string (P := Try.prog) w0 38 9 3 5 w.heap.size 0 1 1 ⟨#[109]⟩ Try.underlying38 (fun _ => by kernel_rfl) (by decide) (fun j hj => ?_) (fun j hj => ?_)).trans rfl
    · have hj0 : j = 0 := Nat.lt_one_iff.1 hj
      subst hj0
      have := hw0.cell 0
      simp only [List.getElem?_toArray, List.getElem?_cons_zero] at this
      rw [Nat.zero_add, this]
      rfl
    · exact hw0.free _
  have hw1 := hw0.put 0 (.int .u8 109)
  have hg1 : Grows w (w0.setCell ⟨w.heap.size, 0, none⟩ (.int .u8 109)) := Below.setCell (p := ⟨w.heap.size, 0, none⟩) hg0 (Nat.le_refl _) _
  obtain ⟨w1, he1⟩ : ∃ w1, w0.setCell ⟨w.heap.size, 0, none⟩ (.int .u8 109) = w1 := ⟨_, rfl⟩
  rw [he1] at hcp hw1 hg1
  have hs := run_string (hw1.sl [109] rfl (n := 1) rfl)
  have HG := Lib.hid hg1
  clear hmk hw0 hg0 hw1 hg1
  go_enter Try.func12, Try.ntmps12
  go_wp2_with (first | (go_at_call 26; refine (digits_any 3 _).mono ?_; rintro e w' ⟨rfl, rfl⟩; rw [show digitsP 3 = (0, 0) from rfl]) | fail)
  go_loopw [31] (fun i wr => i = .int .i64 0 ∧ wr = w1) (fun _ _ => 0)
  case atStart => exact ⟨rfl, rfl⟩
  case round =>
    obtain ⟨rfl, rfl⟩ := hrel
    go_wp2_with (fail)
    go_ret
    exact ⟨rfl, HG.out⟩

set_option maxRecDepth 100000 in
set_option maxHeartbeats 4000000 in
theorem of_one4 (w : World) :
    Calls Try.prog 12 #[.int .i64 4, .int .i64 0] w fun e w' => e = .returned (.string ⟨([116] : List UInt8).toArray⟩) ∧ Grows w w' := by
  have hmk : ∀ w, (Instr.makeSlice 38 (.int .i64 1) (.int .i64 1)).run Try.prog w = .ok (.slice (some ⟨w.heap.size, 0, none⟩) 1 1) (w.alloc (.cells #[.int .u8 0] 5)) := fun _ => by kernel_rfl
  have hw0 := Whole.made w 5 #[.int .u8 0]
  have hg0 := Grows.refl w |>.alloc (Nat.le_refl _) (.cells #[.int .u8 0] 5)
  obtain ⟨w0, he0⟩ : ∃ w0, w.alloc (.cells #[.int .u8 0] 5) = w0 := ⟨_, rfl⟩
  have hmk1 := hmk w
  rw [he0] at hmk1 hw0 hg0
  have hcp : (Builtin.copy_ #[38, 9] 3 #[.slice (some ⟨w.heap.size, 0, none⟩) 1 1, .string ((⟨#[115, 104, 109, 116]⟩ : ByteArray).extract 3 4)]).run Try.prog w0 = .ok (goInt 1) (w0.setCell ⟨w.heap.size, 0, none⟩ (.int .u8 116)) := by
    rw [show (⟨#[115, 104, 109, 116]⟩ : ByteArray).extract 3 4 = ⟨#[116]⟩ by rfl]
    refine (run_copy_string (P := Try.prog) w0 38 9 3 5 w.heap.size 0 1 1 ⟨#[116]⟩ Try.underlying38 (fun _ => by kernel_rfl) (by decide) (fun j hj => ?_) (fun j hj => ?_)).trans rfl
    · have hj0 : j = 0 := Nat.lt_one_iff.1 hj
      subst hj0
      have := hw0.cell 0
      simp only [List.getElem?_toArray, List.getElem?_cons_zero] at this
      rw [Nat.zero_add, this]
      rfl
    · exact hw0.free _
  have hw1 := hw0.put 0 (.int .u8 116)
  have hg1 : Grows w (w0.setCell ⟨w.heap.size, 0, none⟩ (.int .u8 116)) := Below.setCell (p := ⟨w.heap.size, 0, none⟩) hg0 (Nat.le_refl _) _
  obtain ⟨w1, he1⟩ : ∃ w1, w0.setCell ⟨w.heap.size, 0, none⟩ (.int .u8 116) = w1 := ⟨_, rfl⟩
  rw [he1] at hcp hw1 hg1
  have hs := run_string (hw1.sl [116] rfl (n := 1) rfl)
  have HG := Lib.hid hg1
  clear hmk hw0 hg0 hw1 hg1
  go_enter Try.func12, Try.ntmps12
  go_wp2_with (first | (go_at_call 26; refine (digits_any 4 _).mono ?_; rintro e w' ⟨rfl, rfl⟩; rw [show digitsP 4 = (0, 0) from rfl]) | fail)
  go_loopw [31] (fun i wr => i = .int .i64 0 ∧ wr = w1) (fun _ _ => 0)
  case atStart => exact ⟨rfl, rfl⟩
  case round =>
    obtain ⟨rfl, rfl⟩ := hrel
    go_wp2_with (fail)
    go_ret
    exact ⟨rfl, HG.out⟩

theorem of_any (k n : Int) (w : World) :
    Calls Try.prog 12 #[.int .i64 k, .int .i64 n] w fun e w' => e = .returned (.string ⟨(ofP k n).toArray⟩) ∧ Grows w w' := by
  have key : ∀ m : Int, (digitsP k).2 = m → (n < 0 ∨ m < n) → Calls Try.prog 12 #[.int .i64 k, .int .i64 n] w fun e w' => e = .returned (.string ⟨([] : List UInt8).toArray⟩) ∧ Grows w w' := fun m hm hn => by
    by_cases h0 : n < 0
    · go_enter Try.func12, Try.ntmps12
      go_wp2_with (first | (go_at_call 26; refine (digits_any k _).mono ?_; rintro e w' ⟨rfl, rfl⟩) | fail)
      go_ret
      exact ⟨rfl, Grows.refl _⟩
    · have h1 : m < n := by omega
      go_enter Try.func12, Try.ntmps12
      go_wp2_with (first | (go_at_call 26; refine (digits_any k _).mono ?_; rintro e w' ⟨rfl, rfl⟩; rw [hm]) | fail)
      go_ret
      exact ⟨rfl, Grows.refl _⟩
  by_cases hn : n < 0 ∨ n > 99999999
  · have e : ofP k n = [] := by unfold ofP; rw [if_pos hn]
    rw [e]
    refine key _ rfl ?_
    rcases hn with h | h
    · exact .inl h
    · right
      unfold digitsP
      repeat' split
      all_goals omega
  · obtain ⟨m, rfl⟩ : ∃ m : Nat, n = (m : Int) := ⟨n.toNat, by omega⟩
    by_cases h1 : k = 1
    · subst h1
      have e : ofP 1 (m : Int) = 115 :: digs m 8 := by unfold ofP; rw [if_neg hn, if_pos rfl, Int.toNat_natCast]
      rw [e]
      exact of_num1 m (by omega) w
    · by_cases h2 : k = 2
      · subst h2
        have e : ofP 2 (m : Int) = 104 :: digs m 8 := by unfold ofP; rw [if_neg hn, if_neg (by decide), if_pos rfl, Int.toNat_natCast]
        rw [e]
        exact of_num2 m (by omega) w
      · by_cases h3 : k = 3 ∧ (m : Int) = 0
        · obtain ⟨rfl, hm⟩ := h3
          rw [hm]
          exact of_one3 w
        · by_cases h4 : k = 4 ∧ (m : Int) = 0
          · obtain ⟨rfl, hm⟩ := h4
            rw [hm]
            exact of_one4 w
          · have e : ofP k (m : Int) = [] := by unfold ofP; rw [if_neg hn, if_neg h1, if_neg h2, if_neg h3, if_neg h4]
            rw [e]
            refine key _ rfl (.inr ?_)
            unfold digitsP
            rw [if_neg (by omega)]
            split <;> simp only <;> omega
end Go.Proofs.Ytfopiifchcaciaa
