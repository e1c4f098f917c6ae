/-
  The walk of souterrainlaw03.head: it is true, and writes nothing that was there.
-/
import Derived.Test.YtchndjebgpibjaaAll
import Derived.Test.YtchndjebgpibjaaRefAllScan
import Derived.Test.YtchndjebgpibjaaSame
namespace Go.Proofs.Ytchndjebgpibjaa
open Go.RowKit
attribute [local irreducible] Go.wpQuiet

def abB : List UInt8 := putB [97, 98]
def cB : List UInt8 := putB [99]
def dB : List UInt8 := putB [100]
def hB : List UInt8 := abB ++ cB ++ dB.take 5
theorem hB_len : abB.length = 10 ∧ cB.length = 9 ∧ dB.length = 9 ∧ hB.length = 24 := by decide +kernel
theorem hB_all : allB hB 0 = ([(0, 10, [97, 98]), (10, 9, [99])], 0, 19, 21) := by decide +kernel
theorem hB_next : nextB (hB.drop 10) 10 = ((10, 9, [99]), 0, 19, 0) := by decide +kernel

/-- A literal of items. -/
theorem items_lit {w : World} {g ty n c : Nat} {cs : Array Value} (h : Whole w g ty cs) (ts : List It) (hs : List Hd) (hl : ts.length = hs.length) (hn : ts.length = n) (hc : n ≤ c) (he : cs = (itCells ts hs).toArray)
    (hq : ∀ (i : Nat) (h : Hd) (t : It), hs[i]? = some h → ts[i]? = some t → Sl w h.1 h.2.1 h.2.2 t.2.2) : Items w (some ⟨g, 0, none⟩) n c ts := by
  refine ⟨hn, hc, (fun h => by cases h), hs, by omega, ⟨by rw [itCells_length ts hs hl, hn], fun k v hv => ⟨⟨g, 0, none⟩, rfl, h.lt, ?_⟩⟩, hq⟩
  rw [show (⟨g, 0, none⟩ : Addr).add k = ⟨g, k, none⟩ by unfold Addr.add; split <;> simp_all, h.cell k, he]
  simpa using hv
theorem next_nothing : nextB (([] : List UInt8).drop 0) 0 = ((0, 0, []), 0, 0, 0) := rfl

set_option maxRecDepth 100000 in
set_option maxHeartbeats 8000000 in
theorem head3_any (w : World) :
    Calls Try.prog 9 #[] w fun e w' => e = .returned (.bool true) ∧ Below w.heap.size w w' := by
  have hm1 := Whole.made w 5 #[.int .u8 97, .int .u8 98]
  obtain ⟨w1, hrun1, hheld1, hbel1, _⟩ := conv_mark (n := 2) (c := 2) hm1
  have hg1 : Grows w w1 := Below.trans ((Below.refl _ _).alloc (Nat.le_refl _) _) hbel1
  have HG1 := Lib.hid hg1
  have HS1 := Lib.hid (hheld1.sl [97, 98] rfl rfl)
  clear hm1 hheld1 hbel1 hg1
  go_enter Try.func9, Try.ntmps9
  go_wp2_with (fail)
  refine (refPut_own _ 2 2 _ w1 HS1.out (by unfold maxLen; omega)).mono ?_
  rintro e w2 ⟨A2, m2, c2, rfl, hs2, hb2⟩
  obtain rfl : m2 = 10 := by have h := hs2.1; have h2 := hB_len.1; unfold abB at h2; simp at h; omega
  have HG2 := Lib.hid (Grows.trans HG1.out hb2)
  have HO2 := Lib.hid (owned_from hs2 HG1.out.size)
  clear hs2 hb2 hrun1 HS1 HG1
  have hm3 := Whole.made w2 5 #[.int .u8 99]
  obtain ⟨w3, hrun3, hheld3, hbel3, _⟩ := conv_mark (n := 1) (c := 1) hm3
  have hg3 : Grows w2 w3 := Below.trans ((Below.refl _ _).alloc (Nat.le_refl _) _) hbel3
  have HG3 := Lib.hid (Grows.trans HG2.out hg3)
  have HS3 := Lib.hid (hheld3.sl [99] rfl rfl)
  have HO3 := Lib.hid (owned_grow HO2.out hg3)
  clear hm3 hheld3 hbel3 hg3 HG2 HO2
  go_wp2_with (fail)
  refine (refPut_own _ 1 1 _ w3 HS3.out (by unfold maxLen; omega)).mono ?_
  rintro e w4 ⟨A4, m4, c4, rfl, hs4, hb4⟩
  obtain rfl : m4 = 9 := by have h := hs4.1; have h2 := hB_len.2.1; unfold cB at h2; simp at h; omega
  have g4 : Grows w3 w4 := hb4
  have HG4 := Lib.hid (Grows.trans HG3.out g4)
  have HO4 := Lib.hid (owned_grow HO3.out g4)
  have HS4 := Lib.hid (Sl.owned hs4)
  clear hs4 hb4 g4 hrun3 HS3 HG3 HO3
  go_wp2_with (at_builtin
               refine list_append_sl rfl (.tmp 17) (.tmp 20) rfl rfl HO4.out (A := A4) (m := 9) (c := c4) rfl HS4.out 19 rfl (abB ++ cB) rfl (by omega) HG4.out.size ?_
               intro A5 c5 w5 hown5 hb5
               have hm6 := Whole.made w5 5 #[.int .u8 100]
               obtain ⟨w6, hrun6, hheld6, hbel6, _⟩ := conv_mark (n := 1) (c := 1) hm6
               have hg6 : Grows w5 w6 := Below.trans ((Below.refl _ _).alloc (Nat.le_refl _) _) hbel6
               have HO6 := Lib.hid (owned_grow hown5 hg6)
               have HG6 := Lib.hid (Below.trans HG4.out (Below.trans hb5 (Below.mono hg6 (Nat.le_trans HG4.out.size hb5.size))))
               have HS6 := Lib.hid (hheld6.sl [100] rfl rfl)
               clear hown5 hb5 hm6 hheld6 hbel6 hg6)
  refine (refPut_own _ 1 1 _ w6 HS6.out (by unfold maxLen; omega)).mono ?_
  rintro e w7 ⟨A7, m7, c7, rfl, hs7, hb7⟩
  obtain rfl : m7 = 9 := by have h := hs7.1; have h2 := hB_len.2.2.1; unfold dB at h2; simp at h; omega
  have g7 : Grows w6 w7 := hb7
  have HG7 := Lib.hid (Below.trans HG6.out (Below.mono g7 HG6.out.size))
  have HO7 := Lib.hid (owned_grow HO6.out g7)
  have hs7' := (Sl.owned hs7)
  have hc7 : (5 : Int) ≤ (c7 : Int) := by have := hs7'.cap; omega
  have HS7 := Lib.hid (hs7'.first (k := 5) (by omega))
  clear hs7 hb7 g7 hrun6 HS6 HG6 HO6 hs7'
  go_wp2_with (at_builtin
               refine list_append_sl rfl (.tmp 21) (.tmp 25) rfl rfl HO7.out (A := A7) (m := 5) (c := c7) rfl HS7.out 24 rfl hB rfl (by omega) HG7.out.size ?_
               intro A8 c8 w8 hown8 hb8
               have HS8 := Lib.hid (Sl.owned hown8)
               have HG8 := Lib.hid (show Grows w w8 from Below.trans HG7.out hb8)
               clear hown8 hb8)
  have hall := all_in A8 24 c8 hB w8 HS8.out (by omega)
  rw [hB_all] at hall
  refine hall.mono ?_
  clear hall
  rintro e w9 ⟨A9, c9, hh9, rfl, ho9, hbd9, hb9⟩
  have g9 : Grows w8 w9 := hb9
  have HI9 := Lib.hid (items_own (n := 2) rfl ho9 hbd9)
  have HG9 := Lib.hid (Grows.trans HG8.out g9)
  have HS9 := Lib.hid (HS8.out.grow g9)
  clear ho9 hbd9 hb9 g9 HG8 HS8
  go_wp2_with (fail)
  have hnx := next_in A8 24 c8 hB 10 w9 HS9.out (by omega) (by omega)
  rw [hB_next] at hnx
  refine hnx.mono ?_
  clear hnx
  rintro e w10 ⟨A10, m10, c10, rfl, -, hb10⟩
  have g10 : Grows w9 w10 := hb10
  have HI10 := Lib.hid (HI9.out.grow g10)
  have HG10 := Lib.hid (Grows.trans HG9.out g10)
  clear hb10 g10 HG9 HS9 HI9
  go_wp2_with (fail)
  refine (next_out A8 24 c8 25 _ (by omega)).mono ?_
  rintro e w11 ⟨rfl, hb11⟩
  have hx10 := Whole.made w10 29 #[.int .i64 10, .int .i64 9, .slice A10 m10 c10]
  have g11 : Grows (w10.alloc (.cells #[.int .i64 10, .int .i64 9, .slice A10 m10 c10] 29)) w11 := hb11
  have HX11 := Lib.hid (g11.whole hx10)
  have HG11 := Lib.hid (Grows.trans HG10.out (Grows.trans (grows_alloc _ _) g11))
  have HI11 := Lib.hid (HI10.out.grow (Grows.trans (grows_alloc _ _) g11))
  have hlt11 : w10.heap.size < w11.heap.size := (g11.whole hx10).lt
  clear hb11 hx10 g11 HG10 HI10
  go_wp2_with (fail)
  have hnx := next_in none 0 0 [] 0 (w11.alloc (.cells #[.int .i64 0, .int .i64 0, .slice none 0 0] 29)) (Sl.nil _) (by omega) (by omega)
  rw [next_nothing] at hnx
  refine hnx.mono ?_
  clear hnx
  rintro e w12 ⟨A12, m12, c12, rfl, ho12, hb12⟩
  obtain rfl : m12 = 0 := by have := ho12.1; simpa using this.symm
  have g12 : Grows (w11.alloc (.cells #[.int .i64 0, .int .i64 0, .slice none 0 0] 29)) w12 := hb12
  have g12' := Grows.trans (grows_alloc w11 (.cells #[.int .i64 0, .int .i64 0, .slice none 0 0] 29)) g12
  have HX12 := Lib.hid (g12'.whole HX11.out)
  have HG12 := Lib.hid (Grows.trans HG11.out g12')
  have HI12 := Lib.hid (HI11.out.grow g12')
  clear hb12 g12 ho12
  -- the literals of the last statement
  obtain ⟨v0, hv0⟩ : ∃ v0, w12.alloc (.cells #[.int .i64 0, .int .i64 0, .slice A12 0 c12] 29) = v0 := ⟨_, rfl⟩
  have hm1 := Whole.made v0 5 #[.int .u8 97, .int .u8 98]
  obtain ⟨v1, hrun1, hh1, hbel1, _⟩ := conv_mark (n := 2) (c := 2) hm1
  have k1 : Grows v0 v1 := Below.trans ((Below.refl _ _).alloc (Nat.le_refl _) _) hbel1
  have hm2 := Whole.made v1 5 #[.int .u8 99]
  obtain ⟨v2, hrun2, hh2, hbel2, _⟩ := conv_mark (n := 1) (c := 1) hm2
  have k2 : Grows v1 v2 := Below.trans ((Below.refl _ _).alloc (Nat.le_refl _) _) hbel2
  have s1 := (hh1.sl [97, 98] rfl rfl).grow k2
  have s2 := hh2.sl [99] rfl rfl
  have hm3 := Whole.made v2 29 #[.int .i64 0, .int .i64 10, .slice (some ⟨v0.heap.size, 0, none⟩) 2 2, .int .i64 10, .int .i64 9, .slice (some ⟨v1.heap.size, 0, none⟩) 1 1]
  have k3 := grows_alloc v2 (.cells #[.int .i64 0, .int .i64 10, .slice (some ⟨v0.heap.size, 0, none⟩) 2 2, .int .i64 10, .int .i64 9, .slice (some ⟨v1.heap.size, 0, none⟩) 1 1] 29)
  have hit := items_lit (n := 2) (c := 2) hm3 [(0, 10, [97, 98]), (10, 9, [99])] [(some ⟨v0.heap.size, 0, none⟩, 2, 2), (some ⟨v1.heap.size, 0, none⟩, 1, 1)] rfl rfl (Nat.le_refl _) rfl (fun i h t hh ht => by
    match i, hh, ht with
    | 0, hh, ht => cases hh; cases ht; exact s1.grow k3
    | 1, hh, ht => cases hh; cases ht; exact s2.grow k3)
  have k0 : Grows w12 v0 := hv0 ▸ grows_alloc _ _
  have HK := Lib.hid (Grows.trans k0 (Grows.trans k1 (Grows.trans k2 k3)))
  have HIT := Lib.hid hit
  have HV := Lib.hid hv0
  clear hm1 hh1 hbel1 k1 hm2 hh2 hbel2 k2 s1 s2 hm3 hit k0 k3 hv0
  go_wp2_with (first | rw [HV.out])
  have hsame := same_any A9 2 c9 _ _ 2 2 _ _ (HI12.out.grow HK.out) HIT.out (by omega) (by omega)
  rw [decide_eq_true rfl] at hsame
  refine hsame.mono ?_
  clear hsame
  rintro e w13 ⟨rfl, hb13⟩
  have k13 := Grows.trans HK.out (show Grows _ w13 from hb13)
  have hx := k13.whole HX12.out
  have x0 := hx.cell 0
  simp only [List.getElem?_toArray, List.getElem?_cons_zero] at x0
  have HG13 := Lib.hid (Grows.trans HG12.out k13)
  clear hb13 k13 hx
  go_wp2_with (fail)
  go_ret
  exact ⟨rfl, HG13.out⟩
end Go.Proofs.Ytchndjebgpibjaa
