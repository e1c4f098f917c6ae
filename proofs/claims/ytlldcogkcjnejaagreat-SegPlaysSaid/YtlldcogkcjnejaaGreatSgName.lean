import Derived.Test.YtlldcogkcjnejaaGreatMG00
import Derived.Test.YtlldcogkcjnejaaGreatMG15
import Derived.Test.YtlldcogkcjnejaaGreatMG18
import Derived.Test.YtlldcogkcjnejaaGreatMG01
namespace Go.Proofs.YtlldcogkcjnejaaGreat
open Go.Lib (hid)
open Go.RowKit
def digB (n : Int) : UInt8 := UInt8.ofNat (48 + n % 10).toNat
theorem Zqh (n : Int) : byteV (digB n) = .int .u8 (48 + n % 10) := by
 unfold byteV digB
 rw [UInt8.toNat_ofNat']
 congr 1
 omega
def nmLo : Nat → Int → List UInt8 → List UInt8
 | 0, _, s => s
 | i + 1, n, s => if 0 < n then nmLo i (n / 10) (s.set (i + 1) (digB n)) else s
def nmL (n : Int) : List UInt8 := nmLo 8 n [115, 48, 48, 48, 48, 48, 48, 48, 48]
theorem nmLo_length : ∀ (i : Nat) (n : Int) (s : List UInt8), (nmLo i n s).length = s.length
 | 0, _, _ => rfl
 | i + 1, n, s => by
   unfold nmLo
   split
   ·rw [nmLo_length, List.length_set]
   ·rfl
theorem Zfo (n : Int) : (nmL n).length = 9 := nmLo_length 8 n _
def Zbf (w : World) (g : Nat) (cs : Array Value) : Prop := w.heap[g]? = some (.cells cs 5 (cs.size, cs.size + 1))
theorem Zbf.cell {w : World} {g : Nat} {cs : Array Value} (h : Zbf w g cs) (i : Nat) : w.cell? ⟨g, i, none⟩ = cs[i]? := cell_of_row w g i cs _ _ h
theorem Zbf.free {w : World} {g : Nat} {cs : Array Value} (h : Zbf w g cs) {i : Nat} (hi : i < cs.size) : w.frozen? ⟨g, i, none⟩ = false := by
 unfold Zbf at h
 simp [World.frozen?, h]
 omega
theorem Zbf.put {w : World} {g : Nat} {cs : Array Value} (h : Zbf w g cs) (i : Nat) (u : Value) : Zbf (w.setCell ⟨g, i, none⟩ u) g (cs.setIfInBounds i u) := by
 unfold Zbf at h ⊢
 rw [Array.size_setIfInBounds]
 simp [World.setCell, Array.getElem?_modify, h]
theorem Zok {w : World} {g n c : Nat} {cs : Array Value} (h : Whole w g 5 cs) :
 ∃ w', (convert 31 31 (.slice (some ⟨g, 0, none⟩) n c)).run Tryz.prog w = .ok (.slice (some ⟨g, 0, none⟩) n c) w' ∧ Zbf w' g cs ∧ Below g w w' := by
 refine ⟨w.freeze ⟨g, cs.size, none⟩ 1, ?_, ?_, ⟨rfl, rfl, rfl, ?_, fun k hk => ?_⟩⟩
 ·have hsh : w.shape? g = some (5, cs.size) := by
   unfold World.shape?
   rw [h]
  simp [convert, run_underlying Tryz.underlying31, run_underlying Tryz.underlying5, markStringish, hsh]
 ·unfold Zbf
  simp only [World.freeze, Nat.one_ne_zero, if_false, Array.getElem?_modify]
  rw [h]
  rfl
 ·simp [World.freeze]
 ·simp only [World.freeze, Nat.one_ne_zero, if_false, Array.getElem?_modify]
  rw [if_neg (by omega)]
set_option maxRecDepth 100000 in
set_option maxHeartbeats 4000000 in
theorem Zh7 (w : World) (n : Int) (hn : -9223372036854775808 ≤ n ∧ n ≤ 9223372036854775807) : Calls Tryz.prog 32 #[.int .i64 n] w fun e w' => e = .returned (.string ⟨(nmL n).toArray⟩) ∧ Grows w w' := by
 have hm := Whole.made w 5 #[.int .u8 115, .int .u8 48, .int .u8 48, .int .u8 48, .int .u8 48, .int .u8 48, .int .u8 48, .int .u8 48, .int .u8 48]
 obtain ⟨w1, hrun, hmk, hbel⟩ := Zok (n := 9) (c := 9) hm
 have hg : Grows w w1 := Below.trans ((Below.refl _ _).alloc (Nat.le_refl _) _) hbel
 have HM := hid hmk
 have HG := hid hg
 clear hm hg hmk hbel
 go_enter Tryz.func32, Tryz.ntmps32
 go_wp2_with (fail)
 clear hrun
 go_loopw [0, 4] (fun vn vi wr => ∃ (k : Nat) (m : Int) (s : List UInt8), k ≤ 8 ∧ m ≤ 9223372036854775807 ∧ -9223372036854775808 ≤ m ∧ vn = .int .i64 m ∧ vi = .int .i64 (k : Nat) ∧ Hid (nmLo k m s = nmL n ∧ s.length = 9) ∧ Hid (Zbf wr w.heap.size (s.map byteV).toArray) ∧ Hid (Grows w wr)) (fun _ i _ => (intOf i).toNat)
 case atStart => exact ⟨8, n, [115, 48, 48, 48, 48, 48, 48, 48, 48], by omega, by omega, by omega, rfl, rfl, hid ⟨rfl, rfl⟩, hid HM.out, hid HG.out⟩
 case round =>
  obtain ⟨k, m, s, hk, hm1, hm2, rfl, rfl, HS, HW, HR⟩ := hrel
  by_cases hk0 : k = 0
  ·subst hk0
   have hsl : Sl wr (some ⟨w.heap.size, 0, none⟩) 9 9 s := Held.sl ⟨_, _, HW.out⟩ s rfl HS.out.2
   have hst := Zu hsl
   have HN := hid (show s = nmL n from HS.out.1)
   clear hsl HW
   go_wp2_with (fail)
   go_ret
   exact ⟨by rw [HN.out]; rfl, HR.out⟩
  ·by_cases hm0 : 0 < m
   ·obtain ⟨i, rfl⟩ : ∃ i, k = i + 1 := ⟨k - 1, by omega⟩
    have hil : i + 1 < s.length := by have := HS.out.2; omega
    have c1 : wr.cell? ⟨w.heap.size, i + 1, none⟩ = some (byteV s[i + 1]) := by
     rw [HW.out.cell]
     simp [hil]
    obtain ⟨b1, hb1⟩ : ∃ b, byteV s[i + 1] = b := ⟨_, rfl⟩
    rw [hb1] at c1
    have f1 := HW.out.free (i := i + 1) (by have := HS.out.2; simp; omega)
    have HV := hid (Zqh m)
    go_wp2_with (fail)
    refine ⟨⟨i, m / 10, s.set (i + 1) (digB m), by omega, by omega, by omega, rfl, rfl, hid ⟨?_, ?_⟩, hid ?_, hid ?_⟩, by simp only [intOf]; omega⟩
    ·have h1 := HS.out.1
     unfold nmLo at h1
     rwa [if_pos hm0] at h1
    ·rw [List.length_set]; exact HS.out.2
    ·have h1 := HW.out.put (i + 1) (.int .u8 (48 + m % 10))
     rw [List.map_set, HV.out]
     simpa using h1
    ·exact HR.out.setCell (Nat.le_refl _) _
   ·have hsl : Sl wr (some ⟨w.heap.size, 0, none⟩) 9 9 s := Held.sl ⟨_, _, HW.out⟩ s rfl HS.out.2
    have hst := Zu hsl
    have HN := hid (show s = nmL n by
     obtain ⟨i, rfl⟩ : ∃ i, k = i + 1 := ⟨k - 1, by omega⟩
     have h1 := HS.out.1
     unfold nmLo at h1
     rwa [if_neg hm0] at h1)
    have hk1 : (0 : Int) < (k : Int) := by omega
    clear hsl HW
    go_wp2_with (fail)
    go_ret
    exact ⟨by rw [HN.out]; rfl, HR.out⟩
end Go.Proofs.YtlldcogkcjnejaaGreat
