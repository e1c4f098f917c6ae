/-
  The walk of frame.Put.
-/
import Derived.Test.YtdjlhdeejpndcaaFHead
namespace Go.Proofs.Ytdjlhdeejpndcaa
open Go.RowKit

/-- Put of what is no body. -/
theorem fput_none (A : Option Addr) (n c : Nat) (w : World) (hn : n ≤ maxLen) (h : ¬ (1 ≤ n ∧ n ≤ 8192)) :
    Calls Try.prog 17 #[.slice A n c] w fun e w' => e = .returned (.slice none 0 0) ∧ Below w.heap.size w w' := by
  unfold maxLen at hn
  have hz : sizeN n = 0 := by unfold sizeN; rw [if_neg (by omega)]
  go_enter Try.func17, Try.ntmps17
  go_wp2_with (fail)
  refine (fsize_any _ _ (by omega) (by omega)).mono ?_
  rintro e w1 ⟨rfl, rfl⟩
  go_wp2_with (fail)
  go_ret
  exact ⟨rfl, Below.refl _ _⟩

set_option maxRecDepth 100000 in
set_option maxHeartbeats 2000000 in
theorem put_some (A : Option Addr) (n c : Nat) (bs : List UInt8) (w : World) (hs : Sl w A n c bs) (h1 : 1 ≤ n) (h2 : n ≤ 8192) :
    Calls Try.prog 17 #[.slice A n c] w fun e w' => ∃ A' c', e = .returned (.slice A' (n + 8) c') ∧ w'.ownsRow w.heap.size 5 1 (.slice A' (n + 8) c') (n + 8) ((frameB bs).map byteV) ∧ Below w.heap.size w w' := by
  have hz : sizeN n = ((n + 8 : Nat) : Int) := by unfold sizeN; rw [if_pos (by omega)]; rfl
  have hne : ((((n + 8 : Nat) : Int)) == 0) = false := by simp; omega
  obtain ⟨i0, hi, hz0, hz1, hz2⟩ := info_parts infoU8
  have HI := Lib.hid hi
  have HZ := Lib.hid (And.intro hz0 (And.intro hz1 hz2))
  have HS := Lib.hid hs
  clear hs hi hz0 hz1 hz2
  generalize hm : ((n + 8 : Nat) : Int) = m at *
  go_enter Try.func17, Try.ntmps17
  go_wp2_with (fail)
  refine (fsize_any _ _ (by omega) (by omega)).mono ?_
  rintro e w1 ⟨rfl, rfl⟩
  go_wp2_with (fail)
  obtain ⟨b0, b1, b2, b3, hh⟩ := four (headB_length n)
  have hc := fhead_any n w (by omega)
  rw [hh, arr4_is] at hc
  refine hc.mono ?_
  rintro e w1 ⟨rfl, hb1⟩
  have HH := Lib.hid hh
  have HB1 := Lib.hid hb1
  have hlt : ∀ b : UInt8, b.toNat < 256 := fun b => b.toNat_lt
  clear hb1 hc hh
  go_wp2_with (fail)
  have hW1 := Whole.made w1 69 #[Value.int IntKind.u8 ↑b0.toNat, Value.int IntKind.u8 ↑b1.toNat, Value.int IntKind.u8 ↑b2.toNat, Value.int IntKind.u8 ↑b3.toNat]
  have hBW := HB1.out.alloc HB1.out.size (Obj.cells #[Value.int IntKind.u8 ↑b0.toNat, Value.int IntKind.u8 ↑b1.toNat, Value.int IntKind.u8 ↑b2.toNat, Value.int IntKind.u8 ↑b3.toNat] 69)
  generalize w1.alloc (Obj.cells #[Value.int IntKind.u8 ↑b0.toNat, Value.int IntKind.u8 ↑b1.toNat, Value.int IntKind.u8 ↑b2.toNat, Value.int IntKind.u8 ↑b3.toNat] 69) = W at *
  have hg1 : w.heap.size ≤ w1.heap.size := HB1.out.size
  generalize w1.heap.size = g1 at *
  obtain ⟨w2, hrun, hown, hgr⟩ := run_make_own (P := Try.prog) W W.heap.size 23 5 i0 _ 1 Try.underlying23 HI.out HZ.out.1 HZ.out.2.1 .i64 .i64 (n + 8) (by rw [HZ.out.2.2]; omega) (by unfold maxLen; omega) (Nat.le_refl _)
  rw [hm] at hrun
  rw [hrun]
  have hb2 : Below W.heap.size W w2 := (Below.refl _ W).grown hgr (Nat.le_refl _) (fun k hk => by cases hk)
  have HOWN := Lib.hid hown
  have HB2 := Lib.hid hb2
  have hW2 := Whole.below hW1 hb2 hW1.lt
  have HW2 := Lib.hid hW2
  have HBW := Lib.hid hBW
  clear hrun hown hgr hb2 hW2 hBW hW1 HB1 w1
  go_wp2_with (first
    | (at_builtin
       refine list_append_row rfl (.tmp 17) (.tmp 18) _ rfl Try.underlying23 HI.out HZ.out.1 HZ.out.2.1 HZ.out.2.2 rfl (v := .slice (some ⟨W.heap.size, 0, none⟩) 0 (n + 8)) rfl HOWN.out (A := some ⟨g1, 0, none⟩) (m := 4) (c := 4) rfl (row4 HW2.out) (fun h => by cases h) (byteV_one _) 4 rfl ([b0, b1, b2, b3].map byteV) rfl (by unfold maxLen; omega) (by omega) HB2.out.size ?_
       intro A3 c3 w3 hown3 hbare3 hg3 hat3
       have hb3 : Below W.heap.size W w3 := HB2.out.grown hg3 HB2.out.size (fun k hk => by injection hk with hk; exact Nat.le_of_eq hk)
       have HOWN3 := Lib.hid hown3
       have HB3 := Lib.hid hb3
       have HX3 := Lib.hid (Sl.grow ((HBW.out.trans (hb3.mono HBW.out.size))) HS.out)
       clear hown3 hbare3 hg3 hat3 hb3)
    | (at_builtin
       refine list_append_row rfl (.tmp 20) (.tmp 21) _ rfl Try.underlying23 HI.out HZ.out.1 HZ.out.2.1 HZ.out.2.2 rfl (v := .slice A3 4 c3) rfl HOWN3.out (A := A) (m := n) (c := c) rfl HX3.out.bytes HX3.out.bare (byteV_one _) (n + 4) (by omega) (([b0, b1, b2, b3] ++ bs).map byteV) (List.map_append).symm (by unfold maxLen; omega) (by omega) HB3.out.size ?_
       intro A4 c4 w4 hown4 hbare4 hg4 hat4
       have hb4 : Below W.heap.size W w4 := HB3.out.grown hg4 HB3.out.size (fun k hk => (HOWN3.out.lt k hk).1)
       have HOWN4 := Lib.hid hown4
       have HB4 := Lib.hid hb4
       clear hown4 hbare4 hg4 hat4 hb4))
  obtain ⟨d0, d1, d2, d3, hd⟩ := four (tailB_length ([b0, b1, b2, b3] ++ bs))
  have hc := ftail_any A4 (n + 4) c4 ([b0, b1, b2, b3] ++ bs) w4 (Sl.owned HOWN4.out) (by unfold maxLen; omega)
  rw [hd, arr4_is] at hc
  refine hc.mono ?_
  rintro e w5 ⟨rfl, hb5⟩
  have HD := Lib.hid hd
  have HB5 := Lib.hid hb5
  have hW6 := Whole.made w5 69 #[Value.int IntKind.u8 ↑d0.toNat, Value.int IntKind.u8 ↑d1.toNat, Value.int IntKind.u8 ↑d2.toNat, Value.int IntKind.u8 ↑d3.toNat]
  have HW6 := Lib.hid hW6
  have hb6 := hb5.alloc hb5.size (Obj.cells #[Value.int IntKind.u8 ↑d0.toNat, Value.int IntKind.u8 ↑d1.toNat, Value.int IntKind.u8 ↑d2.toNat, Value.int IntKind.u8 ↑d3.toNat] 69)
  have HOWN6 := Lib.hid (owned_grow HOWN4.out hb6)
  have HB6 := Lib.hid (HB4.out.trans (hb6.mono HB4.out.size))
  clear hb5 hc hd hW6 hb6 HB4 HB3 HB2 HOWN4 HOWN3 HOWN HX3 HW2 HB5
  go_wp2_with (first
    | (at_builtin
       refine list_append_row rfl (.tmp 25) (.tmp 26) _ rfl Try.underlying23 HI.out HZ.out.1 HZ.out.2.1 HZ.out.2.2 rfl (v := .slice A4 (n + 4) c4) rfl HOWN6.out (A := some ⟨w5.heap.size, 0, none⟩) (m := 4) (c := 4) rfl (row4 HW6.out) (fun h => by cases h) (byteV_one _) (n + 8) (by omega) ((([b0, b1, b2, b3] ++ bs) ++ [d0, d1, d2, d3]).map byteV) (List.map_append).symm (by unfold maxLen; omega) (by omega) HB6.out.size ?_
       intro A7 c7 w7 hown7 hbare7 hg7 hat7
       have hb7 : Below W.heap.size W w7 := HB6.out.grown hg7 HB6.out.size (fun k hk => (HOWN6.out.lt k hk).1)
       have HOWN7 := Lib.hid hown7
       have HB7 := Lib.hid hb7
       clear hown7 hbare7 hg7 hat7 hb7))
  go_ret
  refine ⟨A7, c7, rfl, ?_, HBW.out.trans (HB7.out.mono HBW.out.size)⟩
  have hf : frameB bs = ([b0, b1, b2, b3] ++ bs) ++ [d0, d1, d2, d3] := by
    unfold frameB
    rw [HS.out.len, HH.out, HD.out]
  rw [hf]
  exact owned_from HOWN7.out HBW.out.size
theorem fput_own (A : Option Addr) (n c : Nat) (bs : List UInt8) (w : World) (hs : Sl w A n c bs) (hn : n ≤ maxLen) :
    Calls Try.prog 17 #[.slice A n c] w fun e w' => ∃ A' m c', e = .returned (.slice A' m c') ∧ w'.ownsRow w.heap.size 5 1 (.slice A' m c') m ((putB bs).map byteV) ∧ Below w.heap.size w w' := by
  have hl := hs.len
  by_cases h : 1 ≤ n ∧ n ≤ 8192
  · refine (put_some A n c bs w hs h.1 h.2).mono ?_
    rintro e w' ⟨A', c', rfl, hs', hb⟩
    refine ⟨A', n + 8, c', rfl, ?_, hb⟩
    unfold putB
    rw [hl, if_pos h]
    exact hs'
  · refine (fput_none A n c w hn h).mono ?_
    rintro e w' ⟨rfl, hb⟩
    refine ⟨none, 0, 0, rfl, ?_, hb⟩
    unfold putB
    rw [hl, if_neg h]
    exact World.ownsRow_nil _ _ _ _

theorem fput_any (A : Option Addr) (n c : Nat) (bs : List UInt8) (w : World) (hs : Sl w A n c bs) (hn : n ≤ maxLen) :
    Calls Try.prog 17 #[.slice A n c] w fun e w' => ∃ A' m c', e = .returned (.slice A' m c') ∧ Sl w' A' m c' (putB bs) ∧ Below w.heap.size w w' :=
  (fput_own A n c bs w hs hn).mono fun _ _ ⟨A', m, c', he, ho, hb⟩ => ⟨A', m, c', he, Sl.owned ho, hb⟩
end Go.Proofs.Ytdjlhdeejpndcaa
