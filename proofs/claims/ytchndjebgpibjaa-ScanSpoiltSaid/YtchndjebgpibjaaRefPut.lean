/-
  The walks of the answer that package frame is held against: its Size, Put.
-/
import Derived.Test.YtchndjebgpibjaaFHead
import Derived.Test.YtchndjebgpibjaaBit
import Derived.Test.YtchndjebgpibjaaSteps
namespace Go.Proofs.Ytchndjebgpibjaa
open Go.RowKit

set_option maxHeartbeats 400000 in
theorem refSize_any (n : Int) (w : World) (h1 : -9223372036854775808 ≤ n) (h2 : n ≤ 9223372036854775807) :
    Calls Try.prog 21 #[.int .i64 n] w fun e w' => e = .returned (.int .i64 (sizeN n)) ∧ w = w' := by
  by_cases ha : n < 1
  · have hd : decide (n < 1) = true := by simp; omega
    go_enter Try.func21, Try.ntmps21
    go_wp2
    go_ret
    exact ⟨ret_int (by unfold sizeN; rw [if_neg (by omega)]), rfl⟩
  · have hd : decide (n < 1) = false := by simp; omega
    by_cases hb : 8192 < n
    · have hd2 : decide (8192 < n) = true := by simp; omega
      go_enter Try.func21, Try.ntmps21
      go_wp2
      go_ret
      exact ⟨ret_int (by unfold sizeN; rw [if_neg (by omega)]), rfl⟩
    · have hd2 : decide (8192 < n) = false := by simp; omega
      go_enter Try.func21, Try.ntmps21
      go_wp2
      go_ret
      exact ⟨ret_int (by unfold sizeN; rw [if_pos (by omega)]), rfl⟩

theorem raw_head (n x y : Nat) (hx : n / 256 = x) (hy : n % 256 = y) (h : x < 256) : (headB n).map byteV = [.int .u8 (x : Int), .int .u8 (y : Int), .int .u8 (255 - (x : Int)), .int .u8 (255 - (y : Int))] := by
  unfold headB
  rw [hx, hy, Nat.mod_eq_of_lt h, byteV_of (x := (x : Int)) (n := x) (by omega), byteV_of (x := (y : Int)) (n := n) (by omega), byteV_of (x := 255 - (x : Int)) (n := 255 - x) (by omega), byteV_of (x := 255 - (y : Int)) (n := 255 - y) (by omega)]
  rfl
theorem raw_low (s : Nat) (h : s < 4294967296) : #[Value.int .u8 ((s : Int) % 256), .int .u8 ((s : Int) / 256 % 256), .int .u8 ((s : Int) / 65536 % 256), .int .u8 ((s : Int) / 16777216)] = ((lowB s).map byteV).toArray := by
  rw [byteV_of (n := s) (by omega), byteV_of (n := s / 256) (by omega), byteV_of (n := s / 65536) (by omega), byteV_of (n := s / 16777216) (by omega)]
  rfl

theorem refPut_none (A : Option Addr) (n c : Nat) (w : World) (hn : n ≤ maxLen) (h : ¬ (1 ≤ n ∧ n ≤ 8192)) :
    Calls Try.prog 17 #[.slice A n c] w fun e w' => e = .returned (.slice none 0 0) ∧ Below w.heap.size w w' := by
  unfold maxLen at hn
  have hz : sizeN n = 0 := by unfold sizeN; rw [if_neg (by omega)]
  go_enter Try.func17, Try.ntmps17
  go_wp2_with (fail)
  refine (refSize_any _ _ (by omega) (by omega)).mono ?_
  rintro e w1 ⟨rfl, rfl⟩
  go_wp2_with (fail)
  go_ret
  exact ⟨rfl, Below.refl _ _⟩

set_option maxRecDepth 100000 in
set_option maxHeartbeats 1000000 in
theorem refPut_some (A : Option Addr) (n c : Nat) (bs : List UInt8) (w : World) (hs : Sl w A n c bs) (h1 : 1 ≤ n) (h2 : n ≤ 8192) :
    Calls Try.prog 17 #[.slice A n c] w fun e w' => ∃ A' c', e = .returned (.slice A' (n + 8) c') ∧ w'.ownsRow w.heap.size 5 1 (.slice A' (n + 8) c') (n + 8) ((frameB bs).map byteV) ∧ Below w.heap.size w w' := by
  have hz : sizeN n = ((n + 8 : Nat) : Int) := by unfold sizeN; rw [if_pos (by omega)]; rfl
  have hne : ((((n + 8 : Nat) : Int)) == 0) = false := by simp; omega
  obtain ⟨i0, hi, hz0, hz1, hz2⟩ := info_parts infoU8
  have HI := Lib.hid hi
  have HZ := Lib.hid (And.intro hz0 (And.intro hz1 hz2))
  have HS := Lib.hid hs
  clear hs hi hz0 hz1 hz2
  generalize hm : ((n + 8 : Nat) : Int) = m at *
  have q1 : (n : Int).tdiv 256 = ((n / 256 : Nat) : Int) := by rw [Int.tdiv_eq_ediv_of_nonneg (by omega)]; omega
  have q2 : (n : Int).tmod 256 = ((n % 256 : Nat) : Int) := by rw [Int.tmod_eq_emod_of_nonneg (by omega)]; omega
  have q3 : n / 256 < 33 := by omega
  have q4 : n % 256 < 256 := by omega
  generalize hx : n / 256 = x at *
  generalize hy : n % 256 = y at *
  have HX := Lib.hid hx
  have HY := Lib.hid hy
  clear hx hy
  go_enter Try.func17, Try.ntmps17
  go_wp2_with (fail)
  refine (refSize_any _ _ (by omega) (by omega)).mono ?_
  rintro e w1 ⟨rfl, rfl⟩
  have hl0 := World.ownsRow_lit (size := 1) (base := w.heap.size) (e := 5) w #[.int .u8 (x : Int), .int .u8 (y : Int), .int .u8 (255 - (x : Int)), .int .u8 (255 - (y : Int))] 4 (Nat.le_refl _) (by unfold maxLen; omega) rfl
  have HL0 := Lib.hid hl0
  clear hl0
  go_wp2_with (first
    | (at_builtin
       refine list_append_row rfl (.tmp 25) (.tmp 26) _ rfl Try.underlying22 HI.out HZ.out.1 HZ.out.2.1 HZ.out.2.2 rfl (v := .slice (some ⟨w.heap.size, 0, none⟩) 4 4) rfl HL0.out (A := A) (m := n) (c := c) rfl (HS.out.alloc _).bytes HS.out.bare (byteV_one _) (n + 4) (by omega) ((headB n ++ bs).map byteV) (by rw [List.map_append, raw_head n x y HX.out HY.out (by omega)]) (by unfold maxLen; omega) (by omega) (by simp) ?_
       intro A1 c1 w1 hown1 hbare1 hg1 hat1
       have hb1 : Below w.heap.size w w1 := (((Below.refl _ _).alloc (Nat.le_refl _) _).grown hg1 (by simp) (fun k hk => by injection hk with hk; exact Nat.le_of_eq hk))
       have HOWN1 := Lib.hid hown1
       have HB1 := Lib.hid hb1
       clear hown1 hbare1 hg1 hat1 hb1))
  refine (refBit_any A1 (n + 4) c1 _ w1 (Row.owned HOWN1.out) (by unfold maxLen; omega)).mono ?_
  rintro e w2 ⟨rfl, rfl⟩
  have hlt := onN_lt tabN 0 (headB n ++ bs)
  generalize hsu : onN tabN 0 (headB n ++ bs) = s at *
  have HSU := Lib.hid hsu
  clear hsu
  have hm2 := Whole.made w1 5 #[.int .u8 ((s : Int) % 256), .int .u8 ((s : Int) / 256 % 256), .int .u8 ((s : Int) / 65536 % 256), .int .u8 ((s : Int) / 16777216)]
  have hb2 : Grows w1 (w1.alloc (.cells #[.int .u8 ((s : Int) % 256), .int .u8 ((s : Int) / 256 % 256), .int .u8 ((s : Int) / 65536 % 256), .int .u8 ((s : Int) / 16777216)] 5)) := (Below.refl _ _).alloc (Nat.le_refl _) _
  have HM2 := Lib.hid hm2
  have HG2 := Lib.hid hb2
  have HOWN2 := Lib.hid (owned_grow HOWN1.out hb2)
  have HB2 := Lib.hid (HB1.out.trans (hb2.mono HB1.out.size))
  clear hm2 hb2 HL0
  go_wp2_with (first
    | (at_builtin
       refine list_append_row rfl (.tmp 30) (.tmp 42) _ rfl Try.underlying22 HI.out HZ.out.1 HZ.out.2.1 HZ.out.2.2 rfl (v := .slice A1 (n + 4) c1) rfl HOWN2.out (A := some ⟨w1.heap.size, 0, none⟩) (m := 4) (c := 4) rfl (HM2.out.sl (lowB s) (by rw [raw_low s hlt]) rfl).bytes (fun h => by cases h) (byteV_one _) (n + 8) (by omega) (((headB n ++ bs) ++ lowB s).map byteV) (List.map_append).symm (by unfold maxLen; omega) (by omega) HB2.out.size ?_
       intro A7 c7 w7 hown7 hbare7 hg7 hat7
       have hb7 : Below w.heap.size w w7 := HB2.out.grown hg7 HB2.out.size (fun k hk => (HOWN2.out.lt k hk).1)
       have HOWN7 := Lib.hid hown7
       have HB7 := Lib.hid hb7
       clear hown7 hbare7 hg7 hat7 hb7))
  go_ret
  refine ⟨A7, c7, rfl, ?_, HB7.out⟩
  have hf : frameB bs = (headB n ++ bs) ++ lowB s := by
    unfold frameB tailB
    rw [HS.out.len, HSU.out]
  rw [hf]
  exact HOWN7.out

theorem refPut_own (A : Option Addr) (n c : Nat) (bs : List UInt8) (w : World) (hs : Sl w A n c bs) (hn : n ≤ maxLen) :
    Calls Try.prog 17 #[.slice A n c] w fun e w' => ∃ A' m c', e = .returned (.slice A' m c') ∧ w'.ownsRow w.heap.size 5 1 (.slice A' m c') m ((putB bs).map byteV) ∧ Below w.heap.size w w' := by
  have hl := hs.len
  by_cases h : 1 ≤ n ∧ n ≤ 8192
  · refine (refPut_some A n c bs w hs h.1 h.2).mono ?_
    rintro e w' ⟨A', c', rfl, hs', hb⟩
    refine ⟨A', n + 8, c', rfl, ?_, hb⟩
    unfold putB
    rw [hl, if_pos h]
    exact hs'
  · refine (refPut_none A n c w hn h).mono ?_
    rintro e w' ⟨rfl, hb⟩
    refine ⟨none, 0, 0, rfl, ?_, hb⟩
    unfold putB
    rw [hl, if_neg h]
    exact World.ownsRow_nil _ _ _ _
theorem refPut_any (A : Option Addr) (n c : Nat) (bs : List UInt8) (w : World) (hs : Sl w A n c bs) (hn : n ≤ maxLen) :
    Calls Try.prog 17 #[.slice A n c] w fun e w' => ∃ A' m c', e = .returned (.slice A' m c') ∧ Sl w' A' m c' (putB bs) ∧ Below w.heap.size w w' :=
  (refPut_own A n c bs w hs hn).mono fun _ _ ⟨A', m, c', he, ho, hb⟩ => ⟨A', m, c', he, Sl.owned ho, hb⟩
end Go.Proofs.Ytchndjebgpibjaa
