import Derived.Test.YtlldcogkcjnejaaGreatMG15
import Derived.Test.YtlldcogkcjnejaaGreatMG01
import Derived.LoopTactic
import Derived.IntWalk
import Derived.OwnWalk
import Derived.WalkLawsBesides
import Derived.Lib.Hide
import Derived.Lib.LazyBuf
import Derived.Test.YtlldcogkcjnejaaGreatRows
import Derived.Test.YtlldcogkcjnejaaGreatMG00
import Derived.WalkKit
import Derived.Outline
import Derived.Below
import Derived.WalkSpells
import Derived.Laws.BitsAllLaws
namespace Go.Proofs.YtlldcogkcjnejaaGreat
open Go.Lib (hid)
open Go.RowKit
def Zaa (k : Int) : Int × Int := if k = 1 ∨ k = 2 then (8, 99999999) else if k = 3 ∨ k = 4 then (0, 0) else (0, -1)
theorem J1 (k : Int) (w : World) : Calls Tryz.prog 113 #[.int .i64 k] w fun e w' => e = .returned (.tuple #[.int .i64 (Zaa k).1, .int .i64 (Zaa k).2]) ∧ w = w' := by
 by_cases h1 : k = 1
 ·subst h1
  go_enter Tryz.func113, Tryz.ntmps113
  go_wp2_with (fail)
  go_ret2
  exact ⟨rfl, rfl⟩
 by_cases h2 : k = 2
 ·subst h2
  go_enter Tryz.func113, Tryz.ntmps113
  go_wp2_with (fail)
  go_ret2
  exact ⟨rfl, rfl⟩
 by_cases h3 : k = 3
 ·subst h3
  go_enter Tryz.func113, Tryz.ntmps113
  go_wp2_with (fail)
  go_ret2
  exact ⟨rfl, rfl⟩
 by_cases h4 : k = 4
 ·subst h4
  go_enter Tryz.func113, Tryz.ntmps113
  go_wp2_with (fail)
  go_ret2
  exact ⟨rfl, rfl⟩
 go_enter Tryz.func113, Tryz.ntmps113
 go_wp2_with (fail)
 go_ret2
 have e : Zaa k = (0, -1) := by unfold Zaa; rw [if_neg (by omega), if_neg (by omega)]
 rw [e]
 exact ⟨rfl, rfl⟩
def nameV (c : UInt8) (n i : Nat) : Array Value := ((c :: List.replicate (8 - i) 0 ++ digs n i).map byteV).toArray
theorem Zfb (c : UInt8) (n i : Nat) (h : i ≤ 8) : (nameV c n i).size = 9 := by
 simp [nameV, Yk]
 omega
theorem Zrh (m : Nat) (x : UInt8) (r : List UInt8) : ∀ c : UInt8, (c :: List.replicate (m + 1) 0 ++ r).set (m + 1) x = c :: List.replicate m 0 ++ x :: r := by
 induction m with
 | zero => intro c; rfl
 | succ m ih =>
   intro c
   have := ih 0
   rw [List.replicate_succ, List.cons_append, List.set_cons_succ]
   rw [this]
   simp [List.replicate_succ]
theorem Zfc (c : UInt8) (n i : Nat) (h : i < 8) : (nameV c n i).setIfInBounds (8 - i) (.int .u8 ((UInt8.ofNat (48 + n / 10 ^ i % 10)).toNat : Int)) = nameV c n (i + 1) := by
 obtain ⟨m, hm⟩ : ∃ m, 8 - i = m + 1 := ⟨8 - i - 1, by omega⟩
 unfold nameV
 rw [hm, show 8 - (i + 1) = m by omega, digs, ← Zrh m _ (digs n i) c, List.map_set, List.setIfInBounds_toArray]
 rfl
set_option maxRecDepth 100000 in
set_option maxHeartbeats 4000000 in
theorem Zri (n : Nat) (hn : n ≤ 99999999) (w : World) :
 Calls Tryz.prog 81 #[.int .i64 1, .int .i64 (n : Int)] w fun e w' => e = .returned (.string ⟨(115 :: digs n 8 : List UInt8).toArray⟩) ∧ Grows w w' := by
 have hmk : ∀ w, (Instr.makeSlice 31 (.int .i64 9) (.int .i64 9)).run Tryz.prog w = .ok (.slice (some ⟨w.heap.size, 0, none⟩) 9 9) (w.alloc (.cells #[.int .u8 0, .int .u8 0, .int .u8 0, .int .u8 0, .int .u8 0, .int .u8 0, .int .u8 0, .int .u8 0, .int .u8 0] 5)) := fun _ => by kernel_rfl
 have hw0 := Whole.made w 5 #[.int .u8 0, .int .u8 0, .int .u8 0, .int .u8 0, .int .u8 0, .int .u8 0, .int .u8 0, .int .u8 0, .int .u8 0]
 have hg0 := Grows.refl w |>.alloc (Nat.le_refl _) (.cells #[.int .u8 0, .int .u8 0, .int .u8 0, .int .u8 0, .int .u8 0, .int .u8 0, .int .u8 0, .int .u8 0, .int .u8 0] 5)
 obtain ⟨w0, he0⟩ : ∃ w0, w.alloc (.cells #[.int .u8 0, .int .u8 0, .int .u8 0, .int .u8 0, .int .u8 0, .int .u8 0, .int .u8 0, .int .u8 0, .int .u8 0] 5) = w0 := ⟨_, rfl⟩
 have hlt0 : w.heap.size < w0.heap.size := by rw [← he0]; simp
 have hmk1 := hmk w
 rw [he0] at hmk1 hw0 hg0
 have hcp : (Builtin.copy_ #[31, 9] 3 #[.slice (some ⟨w.heap.size, 0, none⟩) 9 9, .string ((⟨#[115, 104, 109, 116]⟩ : ByteArray).extract 0 1)]).run Tryz.prog w0 = .ok (goInt 1) (w0.setCell ⟨w.heap.size, 0, none⟩ (.int .u8 115)) := by
  rw [show (⟨#[115, 104, 109, 116]⟩ : ByteArray).extract 0 1 = ⟨#[115]⟩ by rfl]
  refine (run_copy_string (P := Tryz.prog) w0 31 9 3 5 w.heap.size 0 9 9 ⟨#[115]⟩ Tryz.underlying31 (fun _ => by kernel_rfl) (by decide) (fun j hj => ?_) (fun j hj => ?_)).trans rfl
  ·have hj0 : j = 0 := Nat.lt_one_iff.1 hj
   subst hj0
   have := hw0.cell 0
   simp only [List.getElem?_toArray, List.getElem?_cons_zero] at this
   rw [Nat.zero_add, this]
   rfl
  ·exact hw0.free _
 have hw1 := hw0.put 0 (.int .u8 115)
 have hg1 : Grows w (w0.setCell ⟨w.heap.size, 0, none⟩ (.int .u8 115)) := Below.setCell (p := ⟨w.heap.size, 0, none⟩) hg0 (Nat.le_refl _) _
 obtain ⟨w1, he1⟩ : ∃ w1, w0.setCell ⟨w.heap.size, 0, none⟩ (.int .u8 115) = w1 := ⟨_, rfl⟩
 rw [he1] at hcp hw1 hg1
 have hw2 : Whole w1 w.heap.size 5 (nameV 115 n 0) := hw1
 have HW := hid hw2
 have HG := hid hg1
 have hnn : ¬ (99999999 : Int) < (n : Int) := by omega
 have hn0 : ¬ (n : Int) < 0 := by omega
 clear hmk hw0 hg0 hw1 hg1 hw2 hlt0
 go_enter Tryz.func81, Tryz.ntmps81
 go_wp2_with (first | (go_at_call 113; refine (J1 1 _).mono ?_; rintro e w' ⟨rfl, rfl⟩; rw [show Zaa 1 = (8, 99999999) from rfl]) | fail)
 go_loopw [1, 31] (fun a i wr => ∃ (j : Nat), j ≤ 8 ∧ i = .int .i64 (j : Int) ∧ a = .int .i64 ((n / 10 ^ j : Nat) : Int) ∧ Hid (Whole wr w.heap.size 5 (nameV 115 n j)) ∧ Hid (Grows w wr)) (fun _ i _ => 8 - (intOf i).toNat)
 case atStart => exact ⟨0, by omega, rfl, by simp, HW, HG⟩
 case round =>
  obtain ⟨j, hj, rfl, rfl, HR, HB⟩ := hrel
  by_cases hlt : j < 8
  ·have hlt' : (j : Int) < 8 := by omega
   obtain ⟨q, hq⟩ : ∃ q : Nat, 8 - j = q := ⟨_, rfl⟩
   obtain ⟨X, hX⟩ : ∃ X : Nat, n / 10 ^ j = X := ⟨_, rfl⟩
   have hX2 : n / 10 ^ (j + 1) = X / 10 := by rw [Nat.pow_succ, ← Nat.div_div_eq_div_mul, hX]
   have hXl : X ≤ 99999999 := by rw [← hX]; exact Nat.le_trans (Nat.div_le_self _ _) hn
   have hq1 : IntKind.i64.wrap (8 - (j : Int)) = (q : Int) := by rw [IntWalk.i64_in _ ⟨by omega, by omega⟩]; omega
   have hq2 : wrap64 (8 - (j : Int)) = (q : Int) := by rw [← IntWalk.i64_left]; exact hq1
   have hq9 : q < 9 := by omega
   have hcell := HR.out.cell q
   have hset := Zfc 115 n j hlt
   rw [hX, hq] at hset
   obtain ⟨old, hold⟩ : ∃ old, (nameV 115 n j)[q]? = some old := ⟨_, Array.getElem?_eq_getElem (by rw [Zfb 115 n j hj]; exact hq9)⟩
   rw [hold] at hcell
   have hfree := HR.out.free q
   have hput := HR.out.put q (.int .u8 ((UInt8.ofNat (48 + X % 10)).toNat : Int))
   rw [hset] at hput
   have HP := hid hput
   have hd : ((UInt8.ofNat (48 + X % 10)).toNat : Int) = 48 + (X : Int) % 10 := by
    rw [Ziq _ (Nat.mod_lt _ (by omega))]
    omega
   rw [hd] at HP
   have hm1 : IntKind.i64.wrap ((X : Int).tmod 10) = (X : Int) % 10 := by rw [Int.tmod_eq_emod_of_nonneg (by omega), IntWalk.i64_in _ ⟨by omega, by omega⟩]
   have HX := hid hX
   have HX2 := hid hX2
   have HQ := hid hq
   rw [hX]
   clear hset hput hd hold hX hX2 hq
   go_wp2_with (fail)
   refine ⟨⟨j + 1, by omega, rfl, ?_, hid HP.out, hid (Below.setCell (p := ⟨w.heap.size, q, none⟩) HB.out (Nat.le_refl _) _)⟩, by simp [intOf]; omega⟩
   rw [HX2.out]
   rfl
  ·obtain rfl : j = 8 := by omega
   have hs := Zu (HR.out.sl (115 :: digs n 8) (by unfold nameV; rfl) (n := 9) (by rw [List.length_cons, Yk]))
   have HS := hid hs
   go_wp2_with (fail)
   go_ret
   exact ⟨rfl, HB.out⟩
set_option maxRecDepth 100000 in
set_option maxHeartbeats 4000000 in
theorem Zrj (n : Nat) (hn : n ≤ 99999999) (w : World) :
 Calls Tryz.prog 81 #[.int .i64 2, .int .i64 (n : Int)] w fun e w' => e = .returned (.string ⟨(104 :: digs n 8 : List UInt8).toArray⟩) ∧ Grows w w' := by
 have hmk : ∀ w, (Instr.makeSlice 31 (.int .i64 9) (.int .i64 9)).run Tryz.prog w = .ok (.slice (some ⟨w.heap.size, 0, none⟩) 9 9) (w.alloc (.cells #[.int .u8 0, .int .u8 0, .int .u8 0, .int .u8 0, .int .u8 0, .int .u8 0, .int .u8 0, .int .u8 0, .int .u8 0] 5)) := fun _ => by kernel_rfl
 have hw0 := Whole.made w 5 #[.int .u8 0, .int .u8 0, .int .u8 0, .int .u8 0, .int .u8 0, .int .u8 0, .int .u8 0, .int .u8 0, .int .u8 0]
 have hg0 := Grows.refl w |>.alloc (Nat.le_refl _) (.cells #[.int .u8 0, .int .u8 0, .int .u8 0, .int .u8 0, .int .u8 0, .int .u8 0, .int .u8 0, .int .u8 0, .int .u8 0] 5)
 obtain ⟨w0, he0⟩ : ∃ w0, w.alloc (.cells #[.int .u8 0, .int .u8 0, .int .u8 0, .int .u8 0, .int .u8 0, .int .u8 0, .int .u8 0, .int .u8 0, .int .u8 0] 5) = w0 := ⟨_, rfl⟩
 have hlt0 : w.heap.size < w0.heap.size := by rw [← he0]; simp
 have hmk1 := hmk w
 rw [he0] at hmk1 hw0 hg0
 have hcp : (Builtin.copy_ #[31, 9] 3 #[.slice (some ⟨w.heap.size, 0, none⟩) 9 9, .string ((⟨#[115, 104, 109, 116]⟩ : ByteArray).extract 1 2)]).run Tryz.prog w0 = .ok (goInt 1) (w0.setCell ⟨w.heap.size, 0, none⟩ (.int .u8 104)) := by
  rw [show (⟨#[115, 104, 109, 116]⟩ : ByteArray).extract 1 2 = ⟨#[104]⟩ by rfl]
  refine (run_copy_string (P := Tryz.prog) w0 31 9 3 5 w.heap.size 0 9 9 ⟨#[104]⟩ Tryz.underlying31 (fun _ => by kernel_rfl) (by decide) (fun j hj => ?_) (fun j hj => ?_)).trans rfl
  ·have hj0 : j = 0 := Nat.lt_one_iff.1 hj
   subst hj0
   have := hw0.cell 0
   simp only [List.getElem?_toArray, List.getElem?_cons_zero] at this
   rw [Nat.zero_add, this]
   rfl
  ·exact hw0.free _
 have hw1 := hw0.put 0 (.int .u8 104)
 have hg1 : Grows w (w0.setCell ⟨w.heap.size, 0, none⟩ (.int .u8 104)) := Below.setCell (p := ⟨w.heap.size, 0, none⟩) hg0 (Nat.le_refl _) _
 obtain ⟨w1, he1⟩ : ∃ w1, w0.setCell ⟨w.heap.size, 0, none⟩ (.int .u8 104) = w1 := ⟨_, rfl⟩
 rw [he1] at hcp hw1 hg1
 have hw2 : Whole w1 w.heap.size 5 (nameV 104 n 0) := hw1
 have HW := hid hw2
 have HG := hid hg1
 have hnn : ¬ (99999999 : Int) < (n : Int) := by omega
 have hn0 : ¬ (n : Int) < 0 := by omega
 clear hmk hw0 hg0 hw1 hg1 hw2 hlt0
 go_enter Tryz.func81, Tryz.ntmps81
 go_wp2_with (first | (go_at_call 113; refine (J1 2 _).mono ?_; rintro e w' ⟨rfl, rfl⟩; rw [show Zaa 2 = (8, 99999999) from rfl]) | fail)
 go_loopw [1, 31] (fun a i wr => ∃ (j : Nat), j ≤ 8 ∧ i = .int .i64 (j : Int) ∧ a = .int .i64 ((n / 10 ^ j : Nat) : Int) ∧ Hid (Whole wr w.heap.size 5 (nameV 104 n j)) ∧ Hid (Grows w wr)) (fun _ i _ => 8 - (intOf i).toNat)
 case atStart => exact ⟨0, by omega, rfl, by simp, HW, HG⟩
 case round =>
  obtain ⟨j, hj, rfl, rfl, HR, HB⟩ := hrel
  by_cases hlt : j < 8
  ·have hlt' : (j : Int) < 8 := by omega
   obtain ⟨q, hq⟩ : ∃ q : Nat, 8 - j = q := ⟨_, rfl⟩
   obtain ⟨X, hX⟩ : ∃ X : Nat, n / 10 ^ j = X := ⟨_, rfl⟩
   have hX2 : n / 10 ^ (j + 1) = X / 10 := by rw [Nat.pow_succ, ← Nat.div_div_eq_div_mul, hX]
   have hXl : X ≤ 99999999 := by rw [← hX]; exact Nat.le_trans (Nat.div_le_self _ _) hn
   have hq1 : IntKind.i64.wrap (8 - (j : Int)) = (q : Int) := by rw [IntWalk.i64_in _ ⟨by omega, by omega⟩]; omega
   have hq2 : wrap64 (8 - (j : Int)) = (q : Int) := by rw [← IntWalk.i64_left]; exact hq1
   have hq9 : q < 9 := by omega
   have hcell := HR.out.cell q
   have hset := Zfc 104 n j hlt
   rw [hX, hq] at hset
   obtain ⟨old, hold⟩ : ∃ old, (nameV 104 n j)[q]? = some old := ⟨_, Array.getElem?_eq_getElem (by rw [Zfb 104 n j hj]; exact hq9)⟩
   rw [hold] at hcell
   have hfree := HR.out.free q
   have hput := HR.out.put q (.int .u8 ((UInt8.ofNat (48 + X % 10)).toNat : Int))
   rw [hset] at hput
   have HP := hid hput
   have hd : ((UInt8.ofNat (48 + X % 10)).toNat : Int) = 48 + (X : Int) % 10 := by
    rw [Ziq _ (Nat.mod_lt _ (by omega))]
    omega
   rw [hd] at HP
   have hm1 : IntKind.i64.wrap ((X : Int).tmod 10) = (X : Int) % 10 := by rw [Int.tmod_eq_emod_of_nonneg (by omega), IntWalk.i64_in _ ⟨by omega, by omega⟩]
   have HX := hid hX
   have HX2 := hid hX2
   have HQ := hid hq
   rw [hX]
   clear hset hput hd hold hX hX2 hq
   go_wp2_with (fail)
   refine ⟨⟨j + 1, by omega, rfl, ?_, hid HP.out, hid (Below.setCell (p := ⟨w.heap.size, q, none⟩) HB.out (Nat.le_refl _) _)⟩, by simp [intOf]; omega⟩
   rw [HX2.out]
   rfl
  ·obtain rfl : j = 8 := by omega
   have hs := Zu (HR.out.sl (104 :: digs n 8) (by unfold nameV; rfl) (n := 9) (by rw [List.length_cons, Yk]))
   have HS := hid hs
   go_wp2_with (fail)
   go_ret
   exact ⟨rfl, HB.out⟩
set_option maxRecDepth 100000 in
set_option maxHeartbeats 4000000 in
theorem Zrk (w : World) :
 Calls Tryz.prog 81 #[.int .i64 3, .int .i64 0] w fun e w' => e = .returned (.string ⟨([109] : List UInt8).toArray⟩) ∧ Grows w w' := by
 have hmk : ∀ w, (Instr.makeSlice 31 (.int .i64 1) (.int .i64 1)).run Tryz.prog w = .ok (.slice (some ⟨w.heap.size, 0, none⟩) 1 1) (w.alloc (.cells #[.int .u8 0] 5)) := fun _ => by kernel_rfl
 have hw0 := Whole.made w 5 #[.int .u8 0]
 have hg0 := Grows.refl w |>.alloc (Nat.le_refl _) (.cells #[.int .u8 0] 5)
 obtain ⟨w0, he0⟩ : ∃ w0, w.alloc (.cells #[.int .u8 0] 5) = w0 := ⟨_, rfl⟩
 have hmk1 := hmk w
 rw [he0] at hmk1 hw0 hg0
 have hcp : (Builtin.copy_ #[31, 9] 3 #[.slice (some ⟨w.heap.size, 0, none⟩) 1 1, .string ((⟨#[115, 104, 109, 116]⟩ : ByteArray).extract 2 3)]).run Tryz.prog w0 = .ok (goInt 1) (w0.setCell ⟨w.heap.size, 0, none⟩ (.int .u8 109)) := by
  rw [show (⟨#[115, 104, 109, 116]⟩ : ByteArray).extract 2 3 = ⟨#[109]⟩ by rfl]
  refine (run_copy_string (P := Tryz.prog) w0 31 9 3 5 w.heap.size 0 1 1 ⟨#[109]⟩ Tryz.underlying31 (fun _ => by kernel_rfl) (by decide) (fun j hj => ?_) (fun j hj => ?_)).trans rfl
  ·have hj0 : j = 0 := Nat.lt_one_iff.1 hj
   subst hj0
   have := hw0.cell 0
   simp only [List.getElem?_toArray, List.getElem?_cons_zero] at this
   rw [Nat.zero_add, this]
   rfl
  ·exact hw0.free _
 have hw1 := hw0.put 0 (.int .u8 109)
 have hg1 : Grows w (w0.setCell ⟨w.heap.size, 0, none⟩ (.int .u8 109)) := Below.setCell (p := ⟨w.heap.size, 0, none⟩) hg0 (Nat.le_refl _) _
 obtain ⟨w1, he1⟩ : ∃ w1, w0.setCell ⟨w.heap.size, 0, none⟩ (.int .u8 109) = w1 := ⟨_, rfl⟩
 rw [he1] at hcp hw1 hg1
 have hs := Zu (hw1.sl [109] rfl (n := 1) rfl)
 have HG := hid hg1
 clear hmk hw0 hg0 hw1 hg1
 go_enter Tryz.func81, Tryz.ntmps81
 go_wp2_with (first | (go_at_call 113; refine (J1 3 _).mono ?_; rintro e w' ⟨rfl, rfl⟩; rw [show Zaa 3 = (0, 0) from rfl]) | fail)
 go_loopw [31] (fun i wr => i = .int .i64 0 ∧ wr = w1) (fun _ _ => 0)
 case atStart => exact ⟨rfl, rfl⟩
 case round =>
  obtain ⟨rfl, rfl⟩ := hrel
  go_wp2_with (fail)
  go_ret
  exact ⟨rfl, HG.out⟩
set_option maxRecDepth 100000 in
set_option maxHeartbeats 4000000 in
theorem Zrl (w : World) :
 Calls Tryz.prog 81 #[.int .i64 4, .int .i64 0] w fun e w' => e = .returned (.string ⟨([116] : List UInt8).toArray⟩) ∧ Grows w w' := by
 have hmk : ∀ w, (Instr.makeSlice 31 (.int .i64 1) (.int .i64 1)).run Tryz.prog w = .ok (.slice (some ⟨w.heap.size, 0, none⟩) 1 1) (w.alloc (.cells #[.int .u8 0] 5)) := fun _ => by kernel_rfl
 have hw0 := Whole.made w 5 #[.int .u8 0]
 have hg0 := Grows.refl w |>.alloc (Nat.le_refl _) (.cells #[.int .u8 0] 5)
 obtain ⟨w0, he0⟩ : ∃ w0, w.alloc (.cells #[.int .u8 0] 5) = w0 := ⟨_, rfl⟩
 have hmk1 := hmk w
 rw [he0] at hmk1 hw0 hg0
 have hcp : (Builtin.copy_ #[31, 9] 3 #[.slice (some ⟨w.heap.size, 0, none⟩) 1 1, .string ((⟨#[115, 104, 109, 116]⟩ : ByteArray).extract 3 4)]).run Tryz.prog w0 = .ok (goInt 1) (w0.setCell ⟨w.heap.size, 0, none⟩ (.int .u8 116)) := by
  rw [show (⟨#[115, 104, 109, 116]⟩ : ByteArray).extract 3 4 = ⟨#[116]⟩ by rfl]
  refine (run_copy_string (P := Tryz.prog) w0 31 9 3 5 w.heap.size 0 1 1 ⟨#[116]⟩ Tryz.underlying31 (fun _ => by kernel_rfl) (by decide) (fun j hj => ?_) (fun j hj => ?_)).trans rfl
  ·have hj0 : j = 0 := Nat.lt_one_iff.1 hj
   subst hj0
   have := hw0.cell 0
   simp only [List.getElem?_toArray, List.getElem?_cons_zero] at this
   rw [Nat.zero_add, this]
   rfl
  ·exact hw0.free _
 have hw1 := hw0.put 0 (.int .u8 116)
 have hg1 : Grows w (w0.setCell ⟨w.heap.size, 0, none⟩ (.int .u8 116)) := Below.setCell (p := ⟨w.heap.size, 0, none⟩) hg0 (Nat.le_refl _) _
 obtain ⟨w1, he1⟩ : ∃ w1, w0.setCell ⟨w.heap.size, 0, none⟩ (.int .u8 116) = w1 := ⟨_, rfl⟩
 rw [he1] at hcp hw1 hg1
 have hs := Zu (hw1.sl [116] rfl (n := 1) rfl)
 have HG := hid hg1
 clear hmk hw0 hg0 hw1 hg1
 go_enter Tryz.func81, Tryz.ntmps81
 go_wp2_with (first | (go_at_call 113; refine (J1 4 _).mono ?_; rintro e w' ⟨rfl, rfl⟩; rw [show Zaa 4 = (0, 0) from rfl]) | fail)
 go_loopw [31] (fun i wr => i = .int .i64 0 ∧ wr = w1) (fun _ _ => 0)
 case atStart => exact ⟨rfl, rfl⟩
 case round =>
  obtain ⟨rfl, rfl⟩ := hrel
  go_wp2_with (fail)
  go_ret
  exact ⟨rfl, HG.out⟩
theorem Zkv (k n : Int) (w : World) :
 Calls Tryz.prog 81 #[.int .i64 k, .int .i64 n] w fun e w' => e = .returned (.string ⟨(ofP k n).toArray⟩) ∧ Grows w w' := by
 have key : ∀ m : Int, (Zaa k).2 = m → (n < 0 ∨ m < n) → Calls Tryz.prog 81 #[.int .i64 k, .int .i64 n] w fun e w' => e = .returned (.string ⟨([] : List UInt8).toArray⟩) ∧ Grows w w' := fun m hm hn => by
  by_cases h0 : n < 0
  ·go_enter Tryz.func81, Tryz.ntmps81
   go_wp2_with (first | (go_at_call 113; refine (J1 k _).mono ?_; rintro e w' ⟨rfl, rfl⟩) | fail)
   go_ret
   exact ⟨rfl, Grows.refl _⟩
  ·have h1 : m < n := by omega
   go_enter Tryz.func81, Tryz.ntmps81
   go_wp2_with (first | (go_at_call 113; refine (J1 k _).mono ?_; rintro e w' ⟨rfl, rfl⟩; rw [hm]) | fail)
   go_ret
   exact ⟨rfl, Grows.refl _⟩
 by_cases hn : n < 0 ∨ n > 99999999
 ·have e : ofP k n = [] := by unfold ofP; rw [if_pos hn]
  rw [e]
  refine key _ rfl ?_
  rcases hn with h | h
  ·exact .inl h
  ·right
   unfold Zaa
   repeat' split
   all_goals omega
 ·obtain ⟨m, rfl⟩ : ∃ m : Nat, n = (m : Int) := ⟨n.toNat, by omega⟩
  by_cases h1 : k = 1
  ·subst h1
   have e : ofP 1 (m : Int) = 115 :: digs m 8 := by unfold ofP; rw [if_neg hn, if_pos rfl, Int.toNat_natCast]
   rw [e]
   exact Zri m (by omega) w
  ·by_cases h2 : k = 2
   ·subst h2
    have e : ofP 2 (m : Int) = 104 :: digs m 8 := by unfold ofP; rw [if_neg hn, if_neg (by decide), if_pos rfl, Int.toNat_natCast]
    rw [e]
    exact Zrj m (by omega) w
   ·by_cases h3 : k = 3 ∧ (m : Int) = 0
    ·obtain ⟨rfl, hm⟩ := h3
     rw [hm]
     exact Zrk w
    ·by_cases h4 : k = 4 ∧ (m : Int) = 0
     ·obtain ⟨rfl, hm⟩ := h4
      rw [hm]
      exact Zrl w
     ·have e : ofP k (m : Int) = [] := by unfold ofP; rw [if_neg hn, if_neg h1, if_neg h2, if_neg h3, if_neg h4]
      rw [e]
      refine key _ rfl (.inr ?_)
      unfold Zaa
      rw [if_neg (by omega)]
      split <;> simp only <;> omega
theorem Zip (a b : List UInt8) : (⟨a.toArray⟩ : ByteArray) ++ (⟨b.toArray⟩ : ByteArray) = ⟨(a ++ b).toArray⟩ := by
 apply ByteArray.ext
 rw [ByteArray.data_append]
 simp
set_option maxRecDepth 100000 in
set_option maxHeartbeats 4000000 in
theorem Zfa (k : Int) (c : UInt8) (hk : k = 1 ∧ c = 115 ∨ k = 2 ∧ c = 104) (n : Nat) (hn : n ≤ 99999999) (w : World) :
 Calls Tryz.prog 83 #[.int .i64 k, .int .i64 (n : Int)] w fun e w' => e = .returned (.string ⟨(c :: digs n 8 : List UInt8).toArray⟩) ∧ Grows w w' := by
 have h1 : ¬ (n : Int) < 0 := by omega
 have h2 : ¬ (99999999 : Int) < (n : Int) := by omega
 have h3 : ¬ k < 1 := by omega
 have h4 : ¬ (4 : Int) < k := by omega
 have h5 : ¬ (2 : Int) < k := by omega
 have h6 : (k == 3) = false := by rw [beq_eq_false_iff_ne]; omega
 have h7 : (k == 4) = false := by rw [beq_eq_false_iff_ne]; omega
 have HK := hid hk
 clear hk
 go_enter Tryz.func83, Tryz.ntmps83
 go_wp2_with (fail)
 go_loopw [1, 5, 6] (fun a s i wr => ∃ (j : Nat), j ≤ 8 ∧ i = .int .i64 (j : Int) ∧ a = .int .i64 ((n / 10 ^ j : Nat) : Int) ∧ s = .string ⟨(digs n j).toArray⟩ ∧ Hid (Grows w wr)) (fun _ _ i _ => 8 - (intOf i).toNat)
 case atStart => exact ⟨0, by omega, rfl, by simp, rfl, hid (Grows.refl _)⟩
 case round =>
  obtain ⟨j, hj, rfl, rfl, rfl, HB⟩ := hrel
  by_cases hlt : j < 8
  ·have hlt' : (j : Int) < 8 := by omega
   obtain ⟨X, hX⟩ : ∃ X : Nat, n / 10 ^ j = X := ⟨_, rfl⟩
   have hX2 : n / 10 ^ (j + 1) = X / 10 := by rw [Nat.pow_succ, ← Nat.div_div_eq_div_mul, hX]
   have hXl : X ≤ 99999999 := by rw [← hX]; exact Nat.le_trans (Nat.div_le_self _ _) hn
   have hd : ((UInt8.ofNat (48 + X % 10)).toNat : Int) = 48 + (X : Int) % 10 := by
    rw [Ziq _ (Nat.mod_lt _ (by omega))]
    omega
   have hds : digs n (j + 1) = UInt8.ofNat (48 + X % 10) :: digs n j := by rw [digs, hX]
   have hm1 : IntKind.i64.wrap ((X : Int).tmod 10) = (X : Int) % 10 := by rw [Int.tmod_eq_emod_of_nonneg (by omega), IntWalk.i64_in _ ⟨by omega, by omega⟩]
   obtain ⟨b, hb⟩ : ∃ b, UInt8.ofNat (48 + X % 10) = b := ⟨_, rfl⟩
   rw [hb] at hd hds
   have hm := Whole.made wr 5 #[.int .u8 (48 + (X : Int) % 10)]
   have hs := Zu (hm.sl [b] (by show _ = [byteV b].toArray; rw [byteV, hd]) (n := 1) rfl)
   have HX := hid hX
   have HX2 := hid hX2
   have HDS := hid hds
   rw [hX]
   obtain ⟨D, hD⟩ : ∃ D, digs n j = D := ⟨_, rfl⟩
   have hDl : ¬ 9223372036854775807 < 1 + D.length := by rw [← hD, Yk]; omega
   rw [hD] at HDS ⊢
   have HAD := hid (Zip [b] D)
   clear hX hX2 hds hd hm hb hD
   go_wp2_with (fail)
   refine ⟨⟨j + 1, by omega, rfl, by rw [HX2.out]; rfl, by rw [HDS.out]; exact congrArg Value.string HAD.out, hid (Grows.trans HB.out (Zb _ _))⟩, by simp [intOf]; omega⟩
  ·obtain rfl : j = 8 := by omega
   have hl : (⟨(digs n 8).toArray⟩ : ByteArray).size = 8 := by
    have := Yk n 8
    simpa [ByteArray.size] using this
   have ha1 := Zip [115] (digs n 8)
   have ha2 := Zip [104] (digs n 8)
   have hl2 : ¬ 9223372036854775807 < 1 + (digs n 8).length := by rw [Yk]; omega
   obtain ⟨D, hD⟩ : ∃ D, digs n 8 = D := ⟨_, rfl⟩
   have HD := hid hD
   rw [hD] at hl ha1 ha2 hl2 ⊢
   clear hD
   have HA1 := hid ha1
   have HA2 := hid ha2
   clear ha1 ha2
   rcases HK.out with ⟨rfl, rfl⟩ | ⟨rfl, rfl⟩
   ·go_wp2_with (fail)
    go_ret
    exact ⟨by rw [HD.out]; exact congrArg (fun s => Ending.returned (.string s)) HA1.out, HB.out⟩
   ·go_wp2_with (fail)
    go_ret
    exact ⟨by rw [HD.out]; exact congrArg (fun s => Ending.returned (.string s)) HA2.out, HB.out⟩
theorem Zku (k n : Int) (w : World) :
 Calls Tryz.prog 83 #[.int .i64 k, .int .i64 n] w fun e w' => e = .returned (.string ⟨(ofP k n).toArray⟩) ∧ Grows w w' := by
 by_cases h1 : n < 0
 ·have e : ofP k n = [] := by unfold ofP; rw [if_pos (.inl h1)]
  rw [e]
  go_enter Tryz.func83, Tryz.ntmps83
  go_wp2_with (fail)
  go_ret
  exact ⟨rfl, Grows.refl _⟩
 by_cases h2 : 99999999 < n
 ·have e : ofP k n = [] := by unfold ofP; rw [if_pos (.inr h2)]
  rw [e]
  go_enter Tryz.func83, Tryz.ntmps83
  go_wp2_with (fail)
  go_ret
  exact ⟨rfl, Grows.refl _⟩
 obtain ⟨m, rfl⟩ : ∃ m : Nat, n = (m : Int) := ⟨n.toNat, by omega⟩
 by_cases h3 : k < 1
 ·have e : ofP k (m : Int) = [] := by unfold ofP; rw [if_neg (by omega), if_neg (by omega), if_neg (by omega), if_neg (by omega), if_neg (by omega)]
  rw [e]
  go_enter Tryz.func83, Tryz.ntmps83
  go_wp2_with (fail)
  go_ret
  exact ⟨rfl, Grows.refl _⟩
 by_cases h4 : 4 < k
 ·have e : ofP k (m : Int) = [] := by unfold ofP; rw [if_neg (by omega), if_neg (by omega), if_neg (by omega), if_neg (by omega), if_neg (by omega)]
  rw [e]
  go_enter Tryz.func83, Tryz.ntmps83
  go_wp2_with (fail)
  go_ret
  exact ⟨rfl, Grows.refl _⟩
 by_cases h5 : 2 < k
 ·by_cases h6 : 0 < (m : Int)
  ·have e : ofP k (m : Int) = [] := by unfold ofP; rw [if_neg (by omega), if_neg (by omega), if_neg (by omega), if_neg (by omega), if_neg (by omega)]
   rw [e]
   go_enter Tryz.func83, Tryz.ntmps83
   go_wp2_with (fail)
   go_ret
   exact ⟨rfl, Grows.refl _⟩
  ·obtain rfl : m = 0 := by omega
   by_cases h7 : k = 3
   ·subst h7
    rw [show ofP 3 ((0 : Nat) : Int) = [109] from rfl]
    go_enter Tryz.func83, Tryz.ntmps83
    go_wp2_with (fail)
    go_ret
    exact ⟨rfl, Grows.refl _⟩
   ·obtain rfl : k = 4 := by omega
    rw [show ofP 4 ((0 : Nat) : Int) = [116] from rfl]
    go_enter Tryz.func83, Tryz.ntmps83
    go_wp2_with (fail)
    go_ret
    exact ⟨rfl, Grows.refl _⟩
 by_cases h8 : k = 1
 ·subst h8
  have e : ofP 1 (m : Int) = 115 :: digs m 8 := by unfold ofP; rw [if_neg (by omega), if_pos rfl, Int.toNat_natCast]
  rw [e]
  exact Zfa 1 115 (.inl ⟨rfl, rfl⟩) m (by omega) w
 ·obtain rfl : k = 2 := by omega
  have e : ofP 2 (m : Int) = 104 :: digs m 8 := by unfold ofP; rw [if_neg (by omega), if_neg (by decide), if_pos rfl, Int.toNat_natCast]
  rw [e]
  exact Zfa 2 104 (.inr ⟨rfl, rfl⟩) m (by omega) w
def stepN (n : Nat) : Nat := if n % 2 = 1 then (n / 2) ^^^ 2197175160 else n / 2
def iterN : Nat → Nat → Nat
 | 0, n => n
 | k + 1, n => stepN (iterN k n)
theorem Zpl (n : Nat) (h : n < 4294967296) : stepN n < 4294967296 := by
 unfold stepN
 split
 ·exact Nat.xor_lt_two_pow (n := 32) (by omega) (by omega)
 ·omega
theorem Zf3 (k n : Nat) (h : n < 4294967296) : iterN k n < 4294967296 := by
 induction k with
 | zero => exact h
 | succ k ih => exact Zpl _ ih
theorem Zjr (s : Nat) (h : s < 4294967296) : 4294967295 ^^^ s = 4294967295 - s := by
 have h1 : (BitVec.allOnes 32 ^^^ BitVec.ofNat 32 s).toNat = 4294967295 - s := by
  rw [BitVec.allOnes_xor, BitVec.toNat_not, BitVec.toNat_ofNat, Nat.mod_eq_of_lt h]
 rw [BitVec.toNat_xor, BitVec.toNat_ofNat, Nat.mod_eq_of_lt h] at h1
 exact h1
def tabN (i : Nat) : Nat := iterN 8 i
theorem Zm9 (i : Nat) (h : i < 256) : tabN i < 4294967296 := Zf3 8 i (by omega)
def nextN (f : Nat → Nat) (s : Nat) (c : UInt8) : Nat := s / 256 ^^^ f ((s ^^^ c.toNat) % 256)
def runN (f : Nat → Nat) (s : Nat) (bs : List UInt8) : Nat := bs.foldl (nextN f) s
def onN (f : Nat → Nat) (s : Nat) (bs : List UInt8) : Nat := 4294967295 - runN f (4294967295 - s) bs
theorem Zpm (f : Nat → Nat) (hf : ∀ i, i < 256 → f i < 4294967296) (s : Nat) (c : UInt8) (h : s < 4294967296) : nextN f s c < 4294967296 :=
 Nat.xor_lt_two_pow (n := 32) (by omega) (hf _ (by omega))
theorem Zna (f : Nat → Nat) (hf : ∀ i, i < 256 → f i < 4294967296) (bs : List UInt8) (s : Nat) (h : s < 4294967296) : runN f s bs < 4294967296 := by
 induction bs generalizing s with
 | nil => exact h
 | cons c bs ih => exact ih _ (Zpm f hf s c h)
theorem Zhi (f : Nat → Nat) (s : Nat) (bs : List UInt8) (k : Nat) (h : k < bs.length) : runN f s (bs.take (k + 1)) = nextN f (runN f s (bs.take k)) (bs.getD k 0) := by
 rw [List.take_succ_eq_append_getElem h]
 unfold runN
 rw [List.foldl_append]
 simp [h]
theorem Zqq (f : Nat → Nat) (s : Nat) (bs : List UInt8) : onN f s bs < 4294967296 := by unfold onN; omega
theorem Zpj (m : Nat) (hm : m < 4294967296) (h : m % 2 = 1) : (bits BinOp.and IntKind.u32 (↑m) 1 == 1) = true := by
 have := u32_and_nat m 1 hm (by omega)
 simp only [Int.natCast_one] at this
 rw [this, Nat.and_one_is_mod, h]; rfl
theorem Zm5 (m : Nat) (hm : m < 4294967296) (h : ¬ m % 2 = 1) : (bits BinOp.and IntKind.u32 (↑m) 1 == 1) = false := by
 have := u32_and_nat m 1 hm (by omega)
 simp only [Int.natCast_one] at this
 rw [this, Nat.and_one_is_mod, show m % 2 = 0 from by omega]; rfl
theorem Zjq (m : Nat) (hm : m < 4294967296) : bits BinOp.xor IntKind.u32 ((m : Int) / 2) 2197175160 = ((m / 2 ^^^ 2197175160 : Nat) : Int) := by
 have := u32_xor_nat (m / 2) 2197175160 (by omega) (by omega)
 rw [← this]; rfl
/-! sum.entry -/
set_option maxHeartbeats 400000 in
theorem Zm6 (n : Nat) (w : World) (hn : n < 4294967296) :
 Calls Tryz.prog 135 #[.int .u32 n] w fun e w' => e = .returned (.int .u32 (iterN 8 n : Nat)) ∧ w = w' := by
 go_enter Tryz.func135, Tryz.ntmps135
 go_wp2
 go_loop [0, 4] (fun s i => ∃ k : Nat, k ≤ 8 ∧ i = .int .i64 k ∧ s = .int .u32 (iterN k n : Nat)) (fun _ i => 8 - (intOf i).toNat)
 case atStart => exact ⟨0, by omega, rfl, rfl⟩
 case round =>
  obtain ⟨k, hk, rfl, rfl⟩ := hrel
  have hb := Zf3 k n hn
  generalize hm : iterN k n = m at *
  have Hm := hid hm
  clear hm
  by_cases hlt : k < 8
  ·by_cases ho : m % 2 = 1
   ·have h1 := Zpj m hb ho
    have Ho := hid ho
    clear ho
    go_wp2
    go_round
    case rel => exact ⟨k + 1, by omega, by go_num, by rw [Zjq m hb, iterN, Hm.out, stepN, if_pos Ho.out]⟩
    case measure => simp [intOf]; omega
   ·have h1 := Zm5 m hb ho
    have Ho := hid ho
    clear ho
    go_wp2
    go_round
    case rel => exact ⟨k + 1, by omega, by go_num, by rw [iterN, Hm.out, stepN, if_neg Ho.out]; rfl⟩
    case measure => simp [intOf]; omega
  ·go_wp2
   go_ret
   exact ⟨Za1 (by rw [show 8 = k by omega, Hm.out]), rfl⟩
/-! sum.Table -/
theorem zeroT (w : World) : (zeroValue 171).run Tryz.prog w = .ok (.agg (arrV fun _ => 0)) w := by kernel_rfl
theorem sizeT : (Tryz.prog.info? 171).map (·.size) = some 256 := by kernel_rfl
def upto (f : Nat → Nat) (k i : Nat) : Nat := if i < k then f i else 0
theorem Zm7 (f : Nat → Nat) (k i : Nat) : upto f (k + 1) i = if i = k then f k else upto f k i := by
 unfold upto
 by_cases h : i = k
 ·subst h; simp
 ·rw [if_neg h]
  by_cases h' : i < k
  ·rw [if_pos h', if_pos (by omega)]
  ·rw [if_neg h', if_neg (by omega)]
theorem Zpk (f : Nat → Nat) (i : Nat) (h : i < 256) : upto f 256 i = f i := if_pos h
set_option maxRecDepth 100000 in
set_option maxHeartbeats 400000 in
theorem Zm8 (w : World) :
 Calls Tryz.prog 117 #[] w fun e w' => e = .returned (.agg (arrV tabN)) ∧ Below w.heap.size w w' := by
 have hz := zeroT
 go_enter Tryz.func117, Tryz.ntmps117
 go_wp2
 go_loopw [3] (fun i wr => ∃ k : Nat, k ≤ 256 ∧ i = .int .i64 k ∧ Whole wr w.heap.size 171 (arrV fun _ => 0) ∧ Whole wr (w.heap.size + 1) 171 (arrV (upto tabN k)) ∧ Below w.heap.size w wr) (fun i _ => 256 - (intOf i).toNat)
 case atStart =>
  refine ⟨0, by omega, rfl, ?_, ?_, ?_⟩
  ·exact (Whole.made w _ _).alloc _
  ·have h := Whole.made (w.alloc (.cells (arrV fun _ => 0) 171)) 171 (arrV fun _ => 0)
   simp only [World.size_alloc] at h
   exact h
  ·exact ((Below.refl _ _).alloc (Nat.le_refl _) _).alloc (by simp) _
 case round =>
  obtain ⟨k, hk, rfl, h0, h1, hb⟩ := hrel
  by_cases hlt : k < 256
  ·have hc := h1.cell k
   rw [Zda _ k hlt] at hc
   have hf := h1.free k
   have H1 := hid h1
   have H0 := hid h0
   clear h1 h0
   go_wp2_with (fail)
   refine (Zm6 k _ (by omega)).mono ?_
   rintro e w' ⟨rfl, rfl⟩
   go_wp2_with (fail)
   go_roundw
   case rel =>
    refine ⟨k + 1, by omega, by go_num, H0.out.elsewhere (by simp) _, ?_, hb.setCell (by simp) _⟩
    have h := H1.out.put k (.int .u32 (tabN k : Nat))
    rw [Zov _ (upto tabN (k + 1)) k (tabN k) hlt (fun i _ => Zm7 tabN k i)] at h
    exact h
   case measure => simp [intOf]; omega
  ·obtain rfl : k = 256 := by omega
   rw [Zou (Zpk tabN)] at h1
   have H1 := hid h1
   have H0 := hid h0
   clear h1 h0
   go_wp2_with (first
    | (refine wpList_load_row rfl 171 _ rfl (w.heap.size + 1) rfl 171 _ (0, 0) _ H1.out Tryz.underlying171 rfl (by rw [Y4]; exact sizeT) ?_)
    | (refine wpList_store_row rfl 171 _ _ rfl w.heap.size (arrV tabN) rfl rfl 171 _ H0.out (by rw [Y4]; exact sizeT) (by rw [Y4, Y4]) (Zot _) ?_))
   refine bodyPost_ret (results_cell_row rfl _ _ w.heap.size 171 (arrV tabN) (0, 0) _ rfl (setRow_heap wr w.heap.size _ _ 171 _ H0.out) Tryz.underlying171 rfl (by rw [Y4]; exact sizeT)) rfl ?_
   exact ⟨rfl, Zc2 hb (Nat.le_refl _) _⟩
theorem Zjp (s : Nat) (h : s < 4294967296) : bits BinOp.xor IntKind.u32 IntKind.u32.max ↑s = ((4294967295 - s : Nat) : Int) := by
 rw [← Zjr s h]
 exact u32_xor_nat 4294967295 s (by omega) h
theorem Zr3 (m : Nat) (b : UInt8) : bits BinOp.xor IntKind.u8 ((m : Int) % 256) (b.toNat : Int) = (((m ^^^ b.toNat) % 256 : Nat) : Int) := by
 have hx : (m % 256) ^^^ b.toNat < 2 ^ 8 := Nat.xor_lt_two_pow (by omega) b.toNat_lt
 have h1 : (BitVec.ofInt 8 ((m : Int) % 256)).toNat = m % 256 := by
  rw [show ((m : Int) % 256) = ((m % 256 : Nat) : Int) by omega, BitVec.ofInt_natCast, BitVec.toNat_ofNat]; exact Nat.mod_eq_of_lt (by omega)
 have h2 : (BitVec.ofInt 8 (b.toNat : Int)).toNat = b.toNat := by
  rw [BitVec.ofInt_natCast, BitVec.toNat_ofNat]; exact Nat.mod_eq_of_lt b.toNat_lt
 show IntKind.u8.wrap ((BitVec.ofInt 8 ((m : Int) % 256) ^^^ BitVec.ofInt 8 (b.toNat : Int)).toNat : Int) = _
 rw [BitVec.toNat_xor, h1, h2, IntKind.wrap_u8']
 have h3 : (m ^^^ b.toNat) % 256 = (m % 256) ^^^ b.toNat := by
  rw [show 256 = 2 ^ 8 by rfl, Nat.xor_mod_two_pow, Nat.mod_eq_of_lt b.toNat_lt]
 rw [h3]
 omega
theorem Zpi (f : Nat → Nat) (hf : ∀ i, i < 256 → f i < 4294967296) (m : Nat) (hm : m < 4294967296) (b : UInt8) (q : Nat) (hq : (m ^^^ b.toNat) % 256 = q) :
 bits BinOp.xor IntKind.u32 ((m : Int) / 256) (f q : Nat) = ((nextN f m b : Nat) : Int) := by
 subst hq
 have := u32_xor_nat (m / 256) (f ((m ^^^ b.toNat) % 256)) (by omega) (hf _ (by omega))
 unfold nextN
 rw [← this]
 rfl
set_option maxRecDepth 100000 in
set_option maxHeartbeats 400000 in
theorem Zr4 (f : Nat → Nat) (hf : ∀ i, i < 256 → f i < 4294967296) (s : Nat) (hs : s < 4294967296) (A : Option Addr) (n c : Nat) (bs : List UInt8) (w : World) (hr : Bytes w w.heap.size A n bs) (hn : n ≤ maxLen) :
 Calls Tryz.prog 134 #[.agg (arrV f), .int .u32 s, .slice A n c] w fun e w' => e = .returned (.int .u32 (onN f s bs : Nat)) ∧ Below w.heap.size w w' := by
 unfold maxLen at hn
 have HL := Lib.hid hr.len
 go_enter Tryz.func134, Tryz.ntmps134
 go_wp2_with (fail)
 go_loop [1, 13] (fun s' i => ∃ k : Nat, k ≤ n ∧ i = .int .i64 k ∧ s' = .int .u32 (runN f (4294967295 - s) (bs.take k) : Nat)) (fun _ i => n - (intOf i).toNat)
 case atStart => exact ⟨0, by omega, rfl, by rw [Zjp s hs]; rfl⟩
 case round =>
  obtain ⟨k, hk, rfl, rfl⟩ := hrel
  have hb := Zna f hf (bs.take k) (4294967295 - s) (by omega)
  have hst := fun h => Zhi f (4294967295 - s) bs k h
  generalize hm : runN f (4294967295 - s) (bs.take k) = m at *
  have Hm := Lib.hid hm
  have Hst := Lib.hid hst
  clear hm hst
  by_cases hlt : k < n
  ·obtain ⟨ad, rfl, hab, hc⟩ := hr.spot hlt
   have hc' : (w.alloc (.cells (arrV f) 171)).cell? (ad.add k) = some (.int .u8 ((bs.getD k 0).toNat : Nat)) := by
    rw [World.cell?_alloc_lt w _ _ (by rw [Z4]; exact hab)]
    exact hc
   clear hc
   generalize bs.getD k 0 = b at *
   have hx := Zr3 m b
   generalize hq : (m ^^^ b.toNat) % 256 = q at *
   have hq' : q < 256 := by omega
   have hcell := Zda f q hq'
   have Hq := Lib.hid hq
   clear hq
   go_wp2_with (fail)
   go_round
   case rel => exact ⟨k + 1, by omega, by go_num, by rw [Hst.out (by have := HL.out; omega), Zpi f hf m hb b q Hq.out]⟩
   case measure => simp [intOf]; omega
  ·obtain rfl : k = n := by omega
   go_wp2_with (fail)
   go_ret
   exact ⟨Za1 (by rw [Zjp m hb]; unfold onN; rw [← Hm.out, List.take_of_length_le (by have := HL.out; omega)]), (Below.refl _ _).alloc (Nat.le_refl _) _⟩
set_option maxRecDepth 100000 in
set_option maxHeartbeats 400000 in
theorem Zr5 (f : Nat → Nat) (hf : ∀ i, i < 256 → f i < 4294967296) (A : Option Addr) (n c : Nat) (bs : List UInt8) (w : World) (hr : Bytes w w.heap.size A n bs) (hn : n ≤ maxLen) :
 Calls Tryz.prog 116 #[.agg (arrV f), .slice A n c] w fun e w' => e = .returned (.int .u32 (onN f 0 bs : Nat)) ∧ Below w.heap.size w w' := by
 have hw := Whole.made w 171 (arrV f)
 have hr1 := hr.alloc (Nat.le_refl _) (.cells (arrV f) 171)
 have Hw := Lib.hid hw
 clear hw
 go_enter Tryz.func116, Tryz.ntmps116
 go_wp2_with (refine wpList_load_row rfl 171 _ rfl w.heap.size rfl 171 _ (0, 0) _ Hw.out Tryz.underlying171 rfl (by rw [Y4]; exact sizeT) ?_)
 refine (Zr4 f hf 0 (by omega) A n c bs _ (hr1.wider (by simp)) hn).mono ?_
 rintro e w' ⟨rfl, hb⟩
 go_wp2_with (fail)
 go_ret
 exact ⟨rfl, ((Below.refl _ _).alloc (Nat.le_refl _) _).trans (hb.mono (by simp))⟩
theorem tabN_all : ∀ i, i < 256 → tabN i < 4294967296 := Zm9
end Go.Proofs.YtlldcogkcjnejaaGreat
