/-
  Statement KeysMap: a key has the place that it was given last, if it was not deleted since; others are as they were. Every list of calls and every key, no condition.
-/
import Derived.Test.YtadgbobemmfjoaaKsGreat
import Derived.Test.YtadgbobemmfjoaaText
import Derived.ProofKit
import Derived.ChangeOld
namespace Go.Proofs.Ytadgbobemmfjoaa
open Go.ChangeShapes Go.WideShapes Go.ChangeAt Go.RowKit
set_option linter.unusedSimpArgs false
set_option linter.unusedVariables false

theorem get_put_same {L : List Pl} (h : Inc L) (p : Pl) : getL p.key (kputL p L) = some p := (getL_some (h.put p).uniq).2 ⟨mem_putL.2 (.inl rfl), rfl⟩
theorem get_put_other {L : List Pl} (h : Inc L) (p : Pl) {key : List UInt8} (hk : key ≠ p.key) : getL key (kputL p L) = getL key L :=
  getL_ext (h.put p).uniq h.uniq fun q hq => by
    rw [mem_putL]
    constructor
    · rintro (rfl | ⟨a, _⟩)
      · exact absurd hq.symm hk
      · exact a
    · intro a
      exact .inr ⟨a, by rw [hq]; exact hk⟩
theorem get_del_same {L : List Pl} (key : List UInt8) : getL key (delL key L) = none := getL_none.2 fun p hp => (mem_delL.1 hp).2
theorem get_del_other {L : List Pl} (h : Inc L) {k key : List UInt8} (hk : key ≠ k) : getL key (delL k L) = getL key L :=
  getL_ext (h.del k).uniq h.uniq fun q hq => by
    rw [mem_delL]
    exact ⟨fun a => a.1, fun a => ⟨a, by rw [hq]; exact hk⟩⟩
theorem plTo_some {p : Pl} : plTo (some p) = .tuple #[plV p, .bool true] := rfl
theorem plTo_none : plTo none = .tuple #[plV Pl.zero, .bool false] := rfl
set_option maxRecDepth 100000 in
set_option maxHeartbeats 8000000 in
theorem keysMap_law (w : World) (A : Option Addr) (n c : Nat) (os : List O13) (hx : Ops13 w A n c os) (key : List UInt8) (hkey : key.length ≤ 9223372036854775807) :
    Calls Try.prog 4 #[.slice A n c, .string ⟨key.toArray⟩] w fun e w' => e = .returned (.bool true) ∧ Below w.heap.size w w' := by
  have HO := Lib.hid hx
  clear hx
  go_enter Try.func4, Try.ntmps4
  go_wp2_with (fail)
  refine (head13_any w).mono ?_
  rintro e w1 ⟨rfl, hg1⟩
  have HG1 := Lib.hid hg1
  clear hg1
  go_wp2_with (fail)
  refine (new_in (B := w.heap.size) (out := fun _ => False) HG1.out HG1.out.size (fun k hk => hk.elim)).mono ?_
  rintro e w2 ⟨d, rfl, hk2, hg2⟩
  have H2 := Lib.hid hk2
  clear hk2 hg2
  have HGT := Lib.hid (great13_any A n c os w2 (HO.out.grow H2.out.low))
  go_wp2_with (fail)
  refine HGT.out.mono ?_
  rintro e w3 (⟨rfl, rfl⟩ | ⟨rfl, hn300, hsh, rfl⟩)
  · go_wp2_with (fail)
    go_ret
    exact ⟨rfl, H2.out.low⟩
  by_cases hbig : 900 < key.length
  · have HLN := Lib.hid hbig
    clear hsh
    go_wp2_with (fail)
    go_ret
    exact ⟨rfl, H2.out.low⟩
  have HKL := Lib.hid (show key.length ≤ 900 from by omega)
  have HSH := Lib.hid hsh
  clear hsh
  have hmw := Whole.made w3 32 #[.int .i64 0, .int .i64 0, .string ⟨#[]⟩, .int .i64 0, .int .i64 0]
  have hgw := grows_alloc w3 (.cells #[.int .i64 0, .int .i64 0, .string ⟨#[]⟩, .int .i64 0, .int .i64 0] 32)
  obtain ⟨V3, hV3⟩ : ∃ W, w3.alloc (.cells #[.int .i64 0, .int .i64 0, .string ⟨#[]⟩, .int .i64 0, .int .i64 0] 32) = W := ⟨_, rfl⟩
  rw [hV3] at hmw hgw
  have hzw : V3.heap.size = w3.heap.size + 1 := by rw [← hV3, World.size_alloc]
  obtain ⟨wb, hwb⟩ : ∃ b, w3.heap.size = b := ⟨_, rfl⟩
  rw [hwb] at hmw
  have HJ0 := Lib.hid (show KsIn w.heap.size w V3 d (fun k => k = wb) [] ∧ Whole V3 wb 32 #[.int .i64 0, .int .i64 0, .string ⟨#[]⟩, .int .i64 0, .int .i64 0] ∧ ([] : List Pl).length ≤ 0 ∧ w.heap.size ≤ wb from ⟨(H2.out.more hgw).less fun k hk => .inr (by omega), hmw, Nat.le_refl _, by have := H2.out.size; omega⟩)
  clear hmw hgw hzw
  go_wp2_with (first | rw [hV3] | fail)
  clear hV3 hwb
  go_loopw [8, 9] (fun vt vi wr => ∃ (i : Nat) (L : List Pl) (y : Pl) (xk : Option Pl) (tk : Bool), i ≤ n ∧ vi = .int .i64 (i : Int) ∧ vt = .bool tk ∧ Hid (KsIn w.heap.size w wr d (fun k => k = wb) L ∧ Whole wr wb 32 (plE y).toArray ∧ L.length ≤ i ∧ w.heap.size ≤ wb) ∧ Hid (getL key L = xk ∧ plTo xk = .tuple #[plV y, .bool tk])) (fun _ vi _ => n - (intOf vi).toNat)
  case atStart => exact ⟨0, [], Pl.zero, none, false, Nat.zero_le _, rfl, rfl, HJ0, Lib.hid ⟨rfl, rfl⟩⟩
  case round =>
    obtain ⟨i, L, ⟨y0, y1, y2, y3, y4⟩, xk, tk, hi, rfl, rfl, HJ, HXK⟩ := hrel
    have HJ : Hid (KsIn w.heap.size w wr d (fun k => k = wb) L ∧ Whole wr wb 32 #[.int .i64 y0, .int .i64 y1, .string ⟨y2.toArray⟩, .int .i64 y3, .int .i64 y4] ∧ L.length ≤ i ∧ w.heap.size ≤ wb) := HJ
    have HXK : Hid (getL key L = xk ∧ plTo xk = .tuple #[.agg #[.int .i64 y0, .int .i64 y1, .string ⟨y2.toArray⟩, .int .i64 y3, .int .i64 y4], .bool tk]) := HXK
    by_cases hlt : i < n
    · obtain ⟨ad, ⟨qw, ⟨q0, q1, q2, q3, q4⟩, qn⟩, rfl, ho, hbl, hok, hcs⟩ := Ops13.at (HO.out.grow HJ.out.1.low) hlt
      obtain ⟨c0, c1, c2, c3, c4, c5, c6⟩ := hcs wr (Grows.refl _)
      dsimp only at c0 c1 c2 c3 c4 c5 c6
      have k0 : (0 : Int) ≤ (i : Int) := by omega
      have k1 : (i : Int) < (n : Int) := by omega
      have HQK := Lib.hid (show q2.length < 9000 from HSH.out i _ hlt ho)
      have HLL := Lib.hid (show L.length < 300 from by have := HJ.out.2.2.1; omega)
      have hg1 := grows_alloc wr (.cells #[.int .i64 qw, .int .i64 q0, .int .i64 q1, .string ⟨q2.toArray⟩, .int .i64 q3, .int .i64 q4, .int .i64 qn] 34)
      have hm1 := Whole.made wr 34 #[.int .i64 qw, .int .i64 q0, .int .i64 q1, .string ⟨q2.toArray⟩, .int .i64 q3, .int .i64 q4, .int .i64 qn]
      obtain ⟨W1, hW1⟩ : ∃ W, wr.alloc (.cells #[.int .i64 qw, .int .i64 q0, .int .i64 q1, .string ⟨q2.toArray⟩, .int .i64 q3, .int .i64 q4, .int .i64 qn] 34) = W := ⟨_, rfl⟩
      rw [hW1] at hg1 hm1
      obtain ⟨ob, hob⟩ : ∃ b, wr.heap.size = b := ⟨_, rfl⟩
      rw [hob] at hm1
      have HW1 := Lib.hid (And.intro hg1 (And.intro hm1 (show ob = wr.heap.size from hob.symm)))
      clear c0 c1 c2 c3 c4 c5 c6
      obtain ⟨c0, c1, c2, c3, c4, c5, c6⟩ := hcs wr (Grows.refl _)
      dsimp only at c0 c1 c2 c3 c4 c5 c6
      have qq := HW1.out.2.1
      have e0 := qq.cell 0
      have e1 := qq.cell 1
      have e2 := qq.cell 2
      have e3 := qq.cell 3
      have e4 := qq.cell 4
      have e5 := qq.cell 5
      have e6 := qq.cell 6
      simp only [List.getElem?_toArray, List.getElem?_cons_zero, List.getElem?_cons_succ] at e0 e1 e2 e3 e4 e5 e6
      clear qq
      have hke := key_eq q2 key
      clear ho hbl hok hcs hg1 hm1
      by_cases h3 : qw = 3
      · have h3b : (qw == 3) = true := by simpa using h3
        have H3Q := Lib.hid h3
        clear h3
        rcases howe : (q2 == key) with _ | _
        · have HOWN := Lib.hid (show ¬ q2 = key from by simpa using howe)
          have hx0 : ∃ x, getL q2 L = x := ⟨_, rfl⟩
          obtain ⟨x0, hx0⟩ := hx0
          obtain ⟨v, hv⟩ : ∃ v, x0.getD Pl.zero = v := ⟨_, rfl⟩
          obtain ⟨s, hs⟩ : ∃ s, x0.isSome = s := ⟨_, rfl⟩
          have hpl : plTo x0 = .tuple #[plV v, .bool s] := by unfold plTo; rw [hv, hs]
          obtain ⟨v0, v1, v2, v3, v4⟩ := v
          have HPL := Lib.hid (show plTo x0 = .tuple #[.agg #[.int .i64 v0, .int .i64 v1, .string ⟨v2.toArray⟩, .int .i64 v3, .int .i64 v4], .bool s] from hpl)
          have HX0 := Lib.hid hx0
          clear hx0 hv hs hpl
          have HGE := Lib.hid (show Calls Try.prog 15 #[.pointer (some ⟨d, 0, none⟩), .string ⟨q2.toArray⟩] W1 fun e w' => e = .returned (.tuple #[.agg #[.int .i64 v0, .int .i64 v1, .string ⟨v2.toArray⟩, .int .i64 v3, .int .i64 v4], .bool s]) ∧ Grows W1 w' from by
            rw [← HPL.out]
            exact get_at q2 (HJ.out.1.grow HW1.out.1) (by have := HQK.out; omega) (by have := HLL.out; omega) HX0.out)
          have hss : (s != s) = false := by simp
          have HEQ := Lib.hid (show ∀ w', (Op.equalIn 10000 32 (.agg #[.int .i64 v0, .int .i64 v1, .string ⟨v2.toArray⟩, .int .i64 v3, .int .i64 v4]) (.agg #[.int .i64 v0, .int .i64 v1, .string ⟨v2.toArray⟩, .int .i64 v3, .int .i64 v4])).run Try.prog w' = .ok true w' from fun w' => (eq_pl ⟨v0, v1, v2, v3, v4⟩ ⟨v0, v1, v2, v3, v4⟩ w').trans (by rw [decide_eq_true rfl]))
          go_wp2_with (first | rw [hW1] | fail)
          refine HGE.out.mono ?_
          rintro e w2 ⟨rfl, hg2⟩
          have hm3 := Whole.made w2 32 #[.int .i64 v0, .int .i64 v1, .string ⟨v2.toArray⟩, .int .i64 v3, .int .i64 v4]
          have hg3 := grows_alloc w2 (.cells #[.int .i64 v0, .int .i64 v1, .string ⟨v2.toArray⟩, .int .i64 v3, .int .i64 v4] 32)
          obtain ⟨W3, hW3⟩ : ∃ W, w2.alloc (.cells #[.int .i64 v0, .int .i64 v1, .string ⟨v2.toArray⟩, .int .i64 v3, .int .i64 v4] 32) = W := ⟨_, rfl⟩
          rw [hW3] at hm3 hg3
          obtain ⟨b3, hb3⟩ : ∃ b, w2.heap.size = b := ⟨_, rfl⟩
          rw [hb3] at hm3
          have hgr3 := Grows.trans hg2 hg3
          have H3 := Lib.hid (And.intro (Grows.trans HW1.out.1 hgr3) (And.intro hm3 (And.intro (hgr3.whole HW1.out.2.1) (show wr.heap.size ≤ b3 ∧ b3 < W3.heap.size ∧ ob < W3.heap.size from by have := HW1.out.1.size; have := hg2.size; have := hm3.lt; have := (hgr3.whole HW1.out.2.1).lt; omega))))
          have qq := H3.out.2.2.1
          have f0 := qq.cell 0
          have f1 := qq.cell 1
          have f2 := qq.cell 2
          have f3 := qq.cell 3
          have f4 := qq.cell 4
          have f5 := qq.cell 5
          have f6 := qq.cell 6
          simp only [List.getElem?_toArray, List.getElem?_cons_zero, List.getElem?_cons_succ] at f0 f1 f2 f3 f4 f5 f6
          clear qq
          clear hg2 hm3 hg3 hgr3 c0 c1 c2 c3 c4 c5 c6
          have hk3 := HJ.out.1.more H3.out.1
          have HCA := Lib.hid (show Calls Try.prog 13 #[.pointer (some ⟨d, 0, none⟩), .string ⟨q2.toArray⟩] W3 fun e w' => e = .returned (.tuple #[.agg #[.int .i64 v0, .int .i64 v1, .string ⟨v2.toArray⟩, .int .i64 v3, .int .i64 v4], .bool s]) ∧ KsIn w.heap.size w w' d (fun k => k = wb ∨ (wr.heap.size ≤ k ∧ k < W3.heap.size)) (delL q2 L) ∧ KStays w.heap.size (fun k => k = wb ∨ (wr.heap.size ≤ k ∧ k < W3.heap.size)) W3 w' from by
            rw [← HPL.out]
            exact del_at q2 hk3 (by show q2.length ≤ _; have := HQK.out; omega) (by have := HLL.out; omega) HX0.out rfl)
          clear hk3
          go_wp2_with (first | rw [hW3] | fail)
          clear hW3 hW1 hb3
          refine HCA.out.mono ?_
          rintro e w4 ⟨rfl, hk4, hs4⟩
          have hm5 := Whole.made w4 32 #[.int .i64 v0, .int .i64 v1, .string ⟨v2.toArray⟩, .int .i64 v3, .int .i64 v4]
          have hg5 := grows_alloc w4 (.cells #[.int .i64 v0, .int .i64 v1, .string ⟨v2.toArray⟩, .int .i64 v3, .int .i64 v4] 32)
          obtain ⟨W5, hW5⟩ : ∃ W, w4.alloc (.cells #[.int .i64 v0, .int .i64 v1, .string ⟨v2.toArray⟩, .int .i64 v3, .int .i64 v4] 32) = W := ⟨_, rfl⟩
          rw [hW5] at hm5 hg5
          obtain ⟨b5, hb5⟩ : ∃ b, w4.heap.size = b := ⟨_, rfl⟩
          rw [hb5] at hm5
          have hsz := HJ.out.2.1.lt
          have hb3l := H3.out.2.2.2
          have hkb : ∀ k, wr.heap.size ≤ k → k < W3.heap.size → W5.heap[k]? = W3.heap[k]? := fun k h1 h2 => (hg5.block k (by have := hs4.size; omega)).trans (hs4.keep h2 (.inr (.inr ⟨h1, h2⟩)))
          have hm3 : Whole W5 b3 32 #[.int .i64 v0, .int .i64 v1, .string ⟨v2.toArray⟩, .int .i64 v3, .int .i64 v4] := (hkb b3 hb3l.1 hb3l.2.1).trans H3.out.2.1
          have hmo : Whole W5 ob 34 #[.int .i64 qw, .int .i64 q0, .int .i64 q1, .string ⟨q2.toArray⟩, .int .i64 q3, .int .i64 q4, .int .i64 qn] := (hkb ob (by have := HW1.out.2.2; omega) hb3l.2.2).trans H3.out.2.2.1
          have hmw : Whole W5 wb 32 #[.int .i64 y0, .int .i64 y1, .string ⟨y2.toArray⟩, .int .i64 y3, .int .i64 y4] := (hg5.block wb (by have := hs4.size; have := H3.out.1.size; omega)).trans ((hs4.keep (by have := H3.out.1.size; omega) (.inr (.inl rfl))).trans (H3.out.1.whole HJ.out.2.1))
          have H5 := Lib.hid (And.intro (hk4.grow hg5) (And.intro hm3 (And.intro hmo (And.intro hmw hm5))))
          clear f0 f1 f2 f3 f4 f5 f6
          have qq := H5.out.2.2.1
          have f0 := qq.cell 0
          have f1 := qq.cell 1
          have f2 := qq.cell 2
          have f3 := qq.cell 3
          have f4 := qq.cell 4
          have f5 := qq.cell 5
          have f6 := qq.cell 6
          simp only [List.getElem?_toArray, List.getElem?_cons_zero, List.getElem?_cons_succ] at f0 f1 f2 f3 f4 f5 f6
          clear qq
          have qq := H5.out.2.1
          have g0 := qq.cell 0
          have g1 := qq.cell 1
          have g2 := qq.cell 2
          have g3 := qq.cell 3
          have g4 := qq.cell 4
          simp only [List.getElem?_toArray, List.getElem?_cons_zero, List.getElem?_cons_succ] at g0 g1 g2 g3 g4
          clear qq
          have qq := H5.out.2.2.2.2
          have h0 := qq.cell 0
          have h1 := qq.cell 1
          have h2 := qq.cell 2
          have h3 := qq.cell 3
          have h4 := qq.cell 4
          simp only [List.getElem?_toArray, List.getElem?_cons_zero, List.getElem?_cons_succ] at h0 h1 h2 h3 h4
          clear qq
          have z1 := HEQ.out W5
          clear hk4 hs4 hm5 hg5 hsz hb3l hkb hm3 hmo hmw HCA
          have H6 := Lib.hid (And.intro (H5.out.1.less (out' := fun k => k = wb) fun k hk => .inl hk) H5.out.2.2.2.1)
          have HG7 := Lib.hid (show Calls Try.prog 15 #[.pointer (some ⟨d, 0, none⟩), .string ⟨key.toArray⟩] W5 fun e w' => e = .returned (.tuple #[.agg #[.int .i64 y0, .int .i64 y1, .string ⟨y2.toArray⟩, .int .i64 y3, .int .i64 y4], .bool tk]) ∧ Grows W5 w' from by
            rw [← HXK.out.2]
            exact get_at key H6.out.1 (by have := HKL.out; omega) (by have h1 := delL_len q2 L; have h2 := HLL.out; omega) ((get_del_other HJ.out.1.inc (fun e => HOWN.out e.symm)).trans HXK.out.1))
          have HEQ2 := Lib.hid (show ∀ w', (Op.equalIn 10000 32 (.agg #[.int .i64 y0, .int .i64 y1, .string ⟨y2.toArray⟩, .int .i64 y3, .int .i64 y4]) (.agg #[.int .i64 y0, .int .i64 y1, .string ⟨y2.toArray⟩, .int .i64 y3, .int .i64 y4])).run Try.prog w' = .ok true w' from fun w' => (eq_pl ⟨y0, y1, y2, y3, y4⟩ ⟨y0, y1, y2, y3, y4⟩ w').trans (by rw [decide_eq_true rfl]))
          have htt : (tk != tk) = false := by simp
          go_wp2_with (first | rw [hW5] | fail)
          refine HG7.out.mono ?_
          rintro e w7 ⟨rfl, hg7⟩
          have hm8 := Whole.made w7 32 #[.int .i64 y0, .int .i64 y1, .string ⟨y2.toArray⟩, .int .i64 y3, .int .i64 y4]
          have hg8 := grows_alloc w7 (.cells #[.int .i64 y0, .int .i64 y1, .string ⟨y2.toArray⟩, .int .i64 y3, .int .i64 y4] 32)
          obtain ⟨W8, hW8⟩ : ∃ W, w7.alloc (.cells #[.int .i64 y0, .int .i64 y1, .string ⟨y2.toArray⟩, .int .i64 y3, .int .i64 y4] 32) = W := ⟨_, rfl⟩
          rw [hW8] at hm8 hg8
          obtain ⟨b8, hb8⟩ : ∃ b, w7.heap.size = b := ⟨_, rfl⟩
          rw [hb8] at hm8
          have H8 := Lib.hid (And.intro (H6.out.1.grow (Grows.trans hg7 hg8)) (And.intro ((Grows.trans hg7 hg8).whole H6.out.2) hm8))
          clear hg7 hm8 hg8
          have qq := H8.out.2.1
          have k0 := qq.cell 0
          have k1 := qq.cell 1
          have k2 := qq.cell 2
          have k3 := qq.cell 3
          have k4 := qq.cell 4
          simp only [List.getElem?_toArray, List.getElem?_cons_zero, List.getElem?_cons_succ] at k0 k1 k2 k3 k4
          clear qq
          have qq := H8.out.2.2
          have j0 := qq.cell 0
          have j1 := qq.cell 1
          have j2 := qq.cell 2
          have j3 := qq.cell 3
          have j4 := qq.cell 4
          simp only [List.getElem?_toArray, List.getElem?_cons_zero, List.getElem?_cons_succ] at j0 j1 j2 j3 j4
          clear qq
          have z2 := HEQ2.out W8
          go_wp2_with (first | rw [hW8] | fail)
          go_roundw
          case rel => exact ⟨i + 1, delL q2 L, ⟨y0, y1, y2, y3, y4⟩, xk, tk, by omega, by first | rfl | go_num, rfl, Lib.hid ⟨H8.out.1, H8.out.2.1, by have h1 := delL_len q2 L; have h2 := HJ.out.2.2.1; omega, HJ.out.2.2.2⟩, Lib.hid ⟨((get_del_other HJ.out.1.inc (fun e => HOWN.out e.symm)).trans HXK.out.1), HXK.out.2⟩⟩
          case measure => simp [intOf]; omega
        · have HOWN := Lib.hid (show q2 = key from by simpa using howe)
          have hx0 : ∃ x, getL q2 L = x := ⟨_, rfl⟩
          obtain ⟨x0, hx0⟩ := hx0
          obtain ⟨v, hv⟩ : ∃ v, x0.getD Pl.zero = v := ⟨_, rfl⟩
          obtain ⟨s, hs⟩ : ∃ s, x0.isSome = s := ⟨_, rfl⟩
          have hpl : plTo x0 = .tuple #[plV v, .bool s] := by unfold plTo; rw [hv, hs]
          obtain ⟨v0, v1, v2, v3, v4⟩ := v
          have HPL := Lib.hid (show plTo x0 = .tuple #[.agg #[.int .i64 v0, .int .i64 v1, .string ⟨v2.toArray⟩, .int .i64 v3, .int .i64 v4], .bool s] from hpl)
          have HX0 := Lib.hid hx0
          clear hx0 hv hs hpl
          have HGE := Lib.hid (show Calls Try.prog 15 #[.pointer (some ⟨d, 0, none⟩), .string ⟨q2.toArray⟩] W1 fun e w' => e = .returned (.tuple #[.agg #[.int .i64 v0, .int .i64 v1, .string ⟨v2.toArray⟩, .int .i64 v3, .int .i64 v4], .bool s]) ∧ Grows W1 w' from by
            rw [← HPL.out]
            exact get_at q2 (HJ.out.1.grow HW1.out.1) (by have := HQK.out; omega) (by have := HLL.out; omega) HX0.out)
          have hss : (s != s) = false := by simp
          have HEQ := Lib.hid (show ∀ w', (Op.equalIn 10000 32 (.agg #[.int .i64 v0, .int .i64 v1, .string ⟨v2.toArray⟩, .int .i64 v3, .int .i64 v4]) (.agg #[.int .i64 v0, .int .i64 v1, .string ⟨v2.toArray⟩, .int .i64 v3, .int .i64 v4])).run Try.prog w' = .ok true w' from fun w' => (eq_pl ⟨v0, v1, v2, v3, v4⟩ ⟨v0, v1, v2, v3, v4⟩ w').trans (by rw [decide_eq_true rfl]))
          go_wp2_with (first | rw [hW1] | fail)
          refine HGE.out.mono ?_
          rintro e w2 ⟨rfl, hg2⟩
          have hm3 := Whole.made w2 32 #[.int .i64 v0, .int .i64 v1, .string ⟨v2.toArray⟩, .int .i64 v3, .int .i64 v4]
          have hg3 := grows_alloc w2 (.cells #[.int .i64 v0, .int .i64 v1, .string ⟨v2.toArray⟩, .int .i64 v3, .int .i64 v4] 32)
          obtain ⟨W3, hW3⟩ : ∃ W, w2.alloc (.cells #[.int .i64 v0, .int .i64 v1, .string ⟨v2.toArray⟩, .int .i64 v3, .int .i64 v4] 32) = W := ⟨_, rfl⟩
          rw [hW3] at hm3 hg3
          obtain ⟨b3, hb3⟩ : ∃ b, w2.heap.size = b := ⟨_, rfl⟩
          rw [hb3] at hm3
          have hgr3 := Grows.trans hg2 hg3
          have H3 := Lib.hid (And.intro (Grows.trans HW1.out.1 hgr3) (And.intro hm3 (And.intro (hgr3.whole HW1.out.2.1) (show wr.heap.size ≤ b3 ∧ b3 < W3.heap.size ∧ ob < W3.heap.size from by have := HW1.out.1.size; have := hg2.size; have := hm3.lt; have := (hgr3.whole HW1.out.2.1).lt; omega))))
          have qq := H3.out.2.2.1
          have f0 := qq.cell 0
          have f1 := qq.cell 1
          have f2 := qq.cell 2
          have f3 := qq.cell 3
          have f4 := qq.cell 4
          have f5 := qq.cell 5
          have f6 := qq.cell 6
          simp only [List.getElem?_toArray, List.getElem?_cons_zero, List.getElem?_cons_succ] at f0 f1 f2 f3 f4 f5 f6
          clear qq
          clear hg2 hm3 hg3 hgr3 c0 c1 c2 c3 c4 c5 c6
          have hk3 := HJ.out.1.more H3.out.1
          have HCA := Lib.hid (show Calls Try.prog 13 #[.pointer (some ⟨d, 0, none⟩), .string ⟨q2.toArray⟩] W3 fun e w' => e = .returned (.tuple #[.agg #[.int .i64 v0, .int .i64 v1, .string ⟨v2.toArray⟩, .int .i64 v3, .int .i64 v4], .bool s]) ∧ KsIn w.heap.size w w' d (fun k => k = wb ∨ (wr.heap.size ≤ k ∧ k < W3.heap.size)) (delL q2 L) ∧ KStays w.heap.size (fun k => k = wb ∨ (wr.heap.size ≤ k ∧ k < W3.heap.size)) W3 w' from by
            rw [← HPL.out]
            exact del_at q2 hk3 (by show q2.length ≤ _; have := HQK.out; omega) (by have := HLL.out; omega) HX0.out rfl)
          clear hk3
          go_wp2_with (first | rw [hW3] | fail)
          clear hW3 hW1 hb3
          refine HCA.out.mono ?_
          rintro e w4 ⟨rfl, hk4, hs4⟩
          have hm5 := Whole.made w4 32 #[.int .i64 v0, .int .i64 v1, .string ⟨v2.toArray⟩, .int .i64 v3, .int .i64 v4]
          have hg5 := grows_alloc w4 (.cells #[.int .i64 v0, .int .i64 v1, .string ⟨v2.toArray⟩, .int .i64 v3, .int .i64 v4] 32)
          obtain ⟨W5, hW5⟩ : ∃ W, w4.alloc (.cells #[.int .i64 v0, .int .i64 v1, .string ⟨v2.toArray⟩, .int .i64 v3, .int .i64 v4] 32) = W := ⟨_, rfl⟩
          rw [hW5] at hm5 hg5
          obtain ⟨b5, hb5⟩ : ∃ b, w4.heap.size = b := ⟨_, rfl⟩
          rw [hb5] at hm5
          have hsz := HJ.out.2.1.lt
          have hb3l := H3.out.2.2.2
          have hkb : ∀ k, wr.heap.size ≤ k → k < W3.heap.size → W5.heap[k]? = W3.heap[k]? := fun k h1 h2 => (hg5.block k (by have := hs4.size; omega)).trans (hs4.keep h2 (.inr (.inr ⟨h1, h2⟩)))
          have hm3 : Whole W5 b3 32 #[.int .i64 v0, .int .i64 v1, .string ⟨v2.toArray⟩, .int .i64 v3, .int .i64 v4] := (hkb b3 hb3l.1 hb3l.2.1).trans H3.out.2.1
          have hmo : Whole W5 ob 34 #[.int .i64 qw, .int .i64 q0, .int .i64 q1, .string ⟨q2.toArray⟩, .int .i64 q3, .int .i64 q4, .int .i64 qn] := (hkb ob (by have := HW1.out.2.2; omega) hb3l.2.2).trans H3.out.2.2.1
          have hmw : Whole W5 wb 32 #[.int .i64 y0, .int .i64 y1, .string ⟨y2.toArray⟩, .int .i64 y3, .int .i64 y4] := (hg5.block wb (by have := hs4.size; have := H3.out.1.size; omega)).trans ((hs4.keep (by have := H3.out.1.size; omega) (.inr (.inl rfl))).trans (H3.out.1.whole HJ.out.2.1))
          have H5 := Lib.hid (And.intro (hk4.grow hg5) (And.intro hm3 (And.intro hmo (And.intro hmw hm5))))
          clear f0 f1 f2 f3 f4 f5 f6
          have qq := H5.out.2.2.1
          have f0 := qq.cell 0
          have f1 := qq.cell 1
          have f2 := qq.cell 2
          have f3 := qq.cell 3
          have f4 := qq.cell 4
          have f5 := qq.cell 5
          have f6 := qq.cell 6
          simp only [List.getElem?_toArray, List.getElem?_cons_zero, List.getElem?_cons_succ] at f0 f1 f2 f3 f4 f5 f6
          clear qq
          have qq := H5.out.2.1
          have g0 := qq.cell 0
          have g1 := qq.cell 1
          have g2 := qq.cell 2
          have g3 := qq.cell 3
          have g4 := qq.cell 4
          simp only [List.getElem?_toArray, List.getElem?_cons_zero, List.getElem?_cons_succ] at g0 g1 g2 g3 g4
          clear qq
          have qq := H5.out.2.2.2.2
          have h0 := qq.cell 0
          have h1 := qq.cell 1
          have h2 := qq.cell 2
          have h3 := qq.cell 3
          have h4 := qq.cell 4
          simp only [List.getElem?_toArray, List.getElem?_cons_zero, List.getElem?_cons_succ] at h0 h1 h2 h3 h4
          clear qq
          have z1 := HEQ.out W5
          clear hk4 hs4 hm5 hg5 hsz hb3l hkb hm3 hmo hmw HCA
          obtain ⟨W6, hW6⟩ : ∃ W, W5.setRow wb #[.int .i64 0, .int .i64 0, .string ⟨#[]⟩, .int .i64 0, .int .i64 0] = W := ⟨_, rfl⟩
          have hoth6 : ∀ k, k ≠ wb → W6.heap[k]? = W5.heap[k]? := fun k hk => by rw [← hW6]; exact setRow_other W5 wb k _ hk
          have hm6 : Whole W6 wb 32 #[.int .i64 0, .int .i64 0, .string ⟨#[]⟩, .int .i64 0, .int .i64 0] := by rw [← hW6]; exact H5.out.2.2.2.1.rowed _
          have hs6 : Spares (fun k => k = wb) W5 W6 := ⟨by rw [← hW6]; rfl, by rw [← hW6]; rfl, by rw [← hW6]; rfl, by rw [← hW6]; simp, fun k _ hk => hoth6 k hk⟩
          have hk6 := H5.out.1.other hs6 (fun k hk _ => .inl hk) (fun k hk => by have := HJ.out.2.2.2; omega)
          have H6 := Lib.hid (And.intro (hk6.less (out' := fun k => k = wb) fun k hk => .inl hk) hm6)
          clear hoth6 hm6 hs6 hk6
          obtain ⟨zz, hzz⟩ : ∃ z : Int, 0 = z := ⟨0, rfl⟩
          have HZZ := Lib.hid hzz
          have hzq : (zz == 0) = true := by rw [← hzz]; rfl
          clear hzz
          have HG7 := Lib.hid (show Calls Try.prog 15 #[.pointer (some ⟨d, 0, none⟩), .string ⟨key.toArray⟩] W6 fun e w' => e = .returned (.tuple #[.agg #[.int .i64 0, .int .i64 0, .string ⟨#[]⟩, .int .i64 0, .int .i64 zz], .bool false]) ∧ Grows W6 w' from by
            have hz := HZZ.out; subst hz; exact get_at key H6.out.1 (by have := HKL.out; omega) (by have h1 := delL_len q2 L; have h2 := HLL.out; omega) (show getL key (delL q2 L) = none from by rw [← HOWN.out]; exact get_del_same q2))
          have HEQ2 := Lib.hid (show ∀ w', (Op.equalIn 10000 32 (.agg #[.int .i64 0, .int .i64 0, .string ⟨#[]⟩, .int .i64 0, .int .i64 zz]) (.agg #[.int .i64 0, .int .i64 0, .string ⟨#[]⟩, .int .i64 0, .int .i64 0])).run Try.prog w' = .ok true w' from fun w' => by have hz := HZZ.out; subst hz; exact (eq_pl Pl.zero Pl.zero w').trans (by rw [decide_eq_true rfl]))
          have htt : (tk != tk) = false := by simp
          go_wp2_with (first | rw [hW5] | rw [hW6] | (refine wpList_store_row rfl 32 _ _ rfl wb #[.int .i64 0, .int .i64 0, .string ⟨#[]⟩, .int .i64 0, .int .i64 0] rfl rfl 32 _ H5.out.2.2.2.1 sizePl rfl (plV_one _ _ _ _ _) ?_; rw [hW6]) | fail)
          refine HG7.out.mono ?_
          rintro e w7 ⟨rfl, hg7⟩
          have hm8 := Whole.made w7 32 #[.int .i64 0, .int .i64 0, .string ⟨#[]⟩, .int .i64 0, .int .i64 zz]
          have hg8 := grows_alloc w7 (.cells #[.int .i64 0, .int .i64 0, .string ⟨#[]⟩, .int .i64 0, .int .i64 zz] 32)
          obtain ⟨W8, hW8⟩ : ∃ W, w7.alloc (.cells #[.int .i64 0, .int .i64 0, .string ⟨#[]⟩, .int .i64 0, .int .i64 zz] 32) = W := ⟨_, rfl⟩
          rw [hW8] at hm8 hg8
          obtain ⟨b8, hb8⟩ : ∃ b, w7.heap.size = b := ⟨_, rfl⟩
          rw [hb8] at hm8
          have H8 := Lib.hid (And.intro (H6.out.1.grow (Grows.trans hg7 hg8)) (And.intro ((Grows.trans hg7 hg8).whole H6.out.2) hm8))
          clear hg7 hm8 hg8
          have qq := H8.out.2.1
          have k0 := qq.cell 0
          have k1 := qq.cell 1
          have k2 := qq.cell 2
          have k3 := qq.cell 3
          have k4 := qq.cell 4
          simp only [List.getElem?_toArray, List.getElem?_cons_zero, List.getElem?_cons_succ] at k0 k1 k2 k3 k4
          clear qq
          have qq := H8.out.2.2
          have j0 := qq.cell 0
          have j1 := qq.cell 1
          have j2 := qq.cell 2
          have j3 := qq.cell 3
          have j4 := qq.cell 4
          simp only [List.getElem?_toArray, List.getElem?_cons_zero, List.getElem?_cons_succ] at j0 j1 j2 j3 j4
          clear qq
          have z2 := HEQ2.out W8
          go_wp2_with (first | rw [hW8] | fail)
          go_roundw
          case rel => exact ⟨i + 1, delL q2 L, Pl.zero, none, false, by omega, by first | rfl | go_num, rfl, Lib.hid ⟨H8.out.1, H8.out.2.1, by have h1 := delL_len q2 L; have h2 := HJ.out.2.2.1; omega, HJ.out.2.2.2⟩, Lib.hid ⟨(show getL key (delL q2 L) = none from by rw [← HOWN.out]; exact get_del_same q2), rfl⟩⟩
          case measure => simp [intOf]; omega
      · have h3b : (qw == 3) = false := by simpa using h3
        by_cases hl3 : qw < 3
        · rcases howe : (q2 == key) with _ | _
          · have HOWN := Lib.hid (show ¬ q2 = key from by simpa using howe)
            have hx0 : ∃ x, getL q2 L = x := ⟨_, rfl⟩
            obtain ⟨x0, hx0⟩ := hx0
            obtain ⟨v, hv⟩ : ∃ v, x0.getD Pl.zero = v := ⟨_, rfl⟩
            obtain ⟨s, hs⟩ : ∃ s, x0.isSome = s := ⟨_, rfl⟩
            have hpl : plTo x0 = .tuple #[plV v, .bool s] := by unfold plTo; rw [hv, hs]
            obtain ⟨v0, v1, v2, v3, v4⟩ := v
            have HPL := Lib.hid (show plTo x0 = .tuple #[.agg #[.int .i64 v0, .int .i64 v1, .string ⟨v2.toArray⟩, .int .i64 v3, .int .i64 v4], .bool s] from hpl)
            have HX0 := Lib.hid hx0
            clear hx0 hv hs hpl
            have HGE := Lib.hid (show Calls Try.prog 15 #[.pointer (some ⟨d, 0, none⟩), .string ⟨q2.toArray⟩] W1 fun e w' => e = .returned (.tuple #[.agg #[.int .i64 v0, .int .i64 v1, .string ⟨v2.toArray⟩, .int .i64 v3, .int .i64 v4], .bool s]) ∧ Grows W1 w' from by
              rw [← HPL.out]
              exact get_at q2 (HJ.out.1.grow HW1.out.1) (by have := HQK.out; omega) (by have := HLL.out; omega) HX0.out)
            have hss : (s != s) = false := by simp
            have HEQ := Lib.hid (show ∀ w', (Op.equalIn 10000 32 (.agg #[.int .i64 v0, .int .i64 v1, .string ⟨v2.toArray⟩, .int .i64 v3, .int .i64 v4]) (.agg #[.int .i64 v0, .int .i64 v1, .string ⟨v2.toArray⟩, .int .i64 v3, .int .i64 v4])).run Try.prog w' = .ok true w' from fun w' => (eq_pl ⟨v0, v1, v2, v3, v4⟩ ⟨v0, v1, v2, v3, v4⟩ w').trans (by rw [decide_eq_true rfl]))
            go_wp2_with (first | rw [hW1] | fail)
            refine HGE.out.mono ?_
            rintro e w2 ⟨rfl, hg2⟩
            have hm3 := Whole.made w2 32 #[.int .i64 v0, .int .i64 v1, .string ⟨v2.toArray⟩, .int .i64 v3, .int .i64 v4]
            have hg3 := grows_alloc w2 (.cells #[.int .i64 v0, .int .i64 v1, .string ⟨v2.toArray⟩, .int .i64 v3, .int .i64 v4] 32)
            obtain ⟨W3, hW3⟩ : ∃ W, w2.alloc (.cells #[.int .i64 v0, .int .i64 v1, .string ⟨v2.toArray⟩, .int .i64 v3, .int .i64 v4] 32) = W := ⟨_, rfl⟩
            rw [hW3] at hm3 hg3
            obtain ⟨b3, hb3⟩ : ∃ b, w2.heap.size = b := ⟨_, rfl⟩
            rw [hb3] at hm3
            have hgr3 := Grows.trans hg2 hg3
            have H3 := Lib.hid (And.intro (Grows.trans HW1.out.1 hgr3) (And.intro hm3 (And.intro (hgr3.whole HW1.out.2.1) (show wr.heap.size ≤ b3 ∧ b3 < W3.heap.size ∧ ob < W3.heap.size from by have := HW1.out.1.size; have := hg2.size; have := hm3.lt; have := (hgr3.whole HW1.out.2.1).lt; omega))))
            have qq := H3.out.2.2.1
            have f0 := qq.cell 0
            have f1 := qq.cell 1
            have f2 := qq.cell 2
            have f3 := qq.cell 3
            have f4 := qq.cell 4
            have f5 := qq.cell 5
            have f6 := qq.cell 6
            simp only [List.getElem?_toArray, List.getElem?_cons_zero, List.getElem?_cons_succ] at f0 f1 f2 f3 f4 f5 f6
            clear qq
            clear hg2 hm3 hg3 hgr3 c0 c1 c2 c3 c4 c5 c6
            have hk3 := HJ.out.1.more H3.out.1
            have HCA := Lib.hid (show Calls Try.prog 20 #[.pointer (some ⟨d, 0, none⟩), .agg #[.int .i64 q0, .int .i64 q1, .string ⟨q2.toArray⟩, .int .i64 q3, .int .i64 q4]] W3 fun e w' => e = .returned (.tuple #[.agg #[.int .i64 v0, .int .i64 v1, .string ⟨v2.toArray⟩, .int .i64 v3, .int .i64 v4], .bool s]) ∧ KsIn w.heap.size w w' d (fun k => k = wb ∨ (wr.heap.size ≤ k ∧ k < W3.heap.size)) (kputL ⟨q0, q1, q2, q3, q4⟩ L) ∧ KStays w.heap.size (fun k => k = wb ∨ (wr.heap.size ≤ k ∧ k < W3.heap.size)) W3 w' from by
              rw [← HPL.out]
              exact put_at ⟨q0, q1, q2, q3, q4⟩ hk3 (by show q2.length ≤ _; have := HQK.out; omega) (by have := HLL.out; omega) HX0.out rfl)
            clear hk3
            go_wp2_with (first | rw [hW3] | fail)
            clear hW3 hW1 hb3
            refine HCA.out.mono ?_
            rintro e w4 ⟨rfl, hk4, hs4⟩
            have hm5 := Whole.made w4 32 #[.int .i64 v0, .int .i64 v1, .string ⟨v2.toArray⟩, .int .i64 v3, .int .i64 v4]
            have hg5 := grows_alloc w4 (.cells #[.int .i64 v0, .int .i64 v1, .string ⟨v2.toArray⟩, .int .i64 v3, .int .i64 v4] 32)
            obtain ⟨W5, hW5⟩ : ∃ W, w4.alloc (.cells #[.int .i64 v0, .int .i64 v1, .string ⟨v2.toArray⟩, .int .i64 v3, .int .i64 v4] 32) = W := ⟨_, rfl⟩
            rw [hW5] at hm5 hg5
            obtain ⟨b5, hb5⟩ : ∃ b, w4.heap.size = b := ⟨_, rfl⟩
            rw [hb5] at hm5
            have hsz := HJ.out.2.1.lt
            have hb3l := H3.out.2.2.2
            have hkb : ∀ k, wr.heap.size ≤ k → k < W3.heap.size → W5.heap[k]? = W3.heap[k]? := fun k h1 h2 => (hg5.block k (by have := hs4.size; omega)).trans (hs4.keep h2 (.inr (.inr ⟨h1, h2⟩)))
            have hm3 : Whole W5 b3 32 #[.int .i64 v0, .int .i64 v1, .string ⟨v2.toArray⟩, .int .i64 v3, .int .i64 v4] := (hkb b3 hb3l.1 hb3l.2.1).trans H3.out.2.1
            have hmo : Whole W5 ob 34 #[.int .i64 qw, .int .i64 q0, .int .i64 q1, .string ⟨q2.toArray⟩, .int .i64 q3, .int .i64 q4, .int .i64 qn] := (hkb ob (by have := HW1.out.2.2; omega) hb3l.2.2).trans H3.out.2.2.1
            have hmw : Whole W5 wb 32 #[.int .i64 y0, .int .i64 y1, .string ⟨y2.toArray⟩, .int .i64 y3, .int .i64 y4] := (hg5.block wb (by have := hs4.size; have := H3.out.1.size; omega)).trans ((hs4.keep (by have := H3.out.1.size; omega) (.inr (.inl rfl))).trans (H3.out.1.whole HJ.out.2.1))
            have H5 := Lib.hid (And.intro (hk4.grow hg5) (And.intro hm3 (And.intro hmo (And.intro hmw hm5))))
            clear f0 f1 f2 f3 f4 f5 f6
            have qq := H5.out.2.2.1
            have f0 := qq.cell 0
            have f1 := qq.cell 1
            have f2 := qq.cell 2
            have f3 := qq.cell 3
            have f4 := qq.cell 4
            have f5 := qq.cell 5
            have f6 := qq.cell 6
            simp only [List.getElem?_toArray, List.getElem?_cons_zero, List.getElem?_cons_succ] at f0 f1 f2 f3 f4 f5 f6
            clear qq
            have qq := H5.out.2.1
            have g0 := qq.cell 0
            have g1 := qq.cell 1
            have g2 := qq.cell 2
            have g3 := qq.cell 3
            have g4 := qq.cell 4
            simp only [List.getElem?_toArray, List.getElem?_cons_zero, List.getElem?_cons_succ] at g0 g1 g2 g3 g4
            clear qq
            have qq := H5.out.2.2.2.2
            have h0 := qq.cell 0
            have h1 := qq.cell 1
            have h2 := qq.cell 2
            have h3 := qq.cell 3
            have h4 := qq.cell 4
            simp only [List.getElem?_toArray, List.getElem?_cons_zero, List.getElem?_cons_succ] at h0 h1 h2 h3 h4
            clear qq
            have z1 := HEQ.out W5
            clear hk4 hs4 hm5 hg5 hsz hb3l hkb hm3 hmo hmw HCA
            have H6 := Lib.hid (And.intro (H5.out.1.less (out' := fun k => k = wb) fun k hk => .inl hk) H5.out.2.2.2.1)
            have HG7 := Lib.hid (show Calls Try.prog 15 #[.pointer (some ⟨d, 0, none⟩), .string ⟨key.toArray⟩] W5 fun e w' => e = .returned (.tuple #[.agg #[.int .i64 y0, .int .i64 y1, .string ⟨y2.toArray⟩, .int .i64 y3, .int .i64 y4], .bool tk]) ∧ Grows W5 w' from by
              rw [← HXK.out.2]
              exact get_at key H6.out.1 (by have := HKL.out; omega) (by have h1 := putL_len ⟨q0, q1, q2, q3, q4⟩ L; have h2 := HLL.out; omega) ((get_put_other HJ.out.1.inc ⟨q0, q1, q2, q3, q4⟩ (fun e => HOWN.out e.symm)).trans HXK.out.1))
            have HEQ2 := Lib.hid (show ∀ w', (Op.equalIn 10000 32 (.agg #[.int .i64 y0, .int .i64 y1, .string ⟨y2.toArray⟩, .int .i64 y3, .int .i64 y4]) (.agg #[.int .i64 y0, .int .i64 y1, .string ⟨y2.toArray⟩, .int .i64 y3, .int .i64 y4])).run Try.prog w' = .ok true w' from fun w' => (eq_pl ⟨y0, y1, y2, y3, y4⟩ ⟨y0, y1, y2, y3, y4⟩ w').trans (by rw [decide_eq_true rfl]))
            have htt : (tk != tk) = false := by simp
            go_wp2_with (first | rw [hW5] | fail)
            refine HG7.out.mono ?_
            rintro e w7 ⟨rfl, hg7⟩
            have hm8 := Whole.made w7 32 #[.int .i64 y0, .int .i64 y1, .string ⟨y2.toArray⟩, .int .i64 y3, .int .i64 y4]
            have hg8 := grows_alloc w7 (.cells #[.int .i64 y0, .int .i64 y1, .string ⟨y2.toArray⟩, .int .i64 y3, .int .i64 y4] 32)
            obtain ⟨W8, hW8⟩ : ∃ W, w7.alloc (.cells #[.int .i64 y0, .int .i64 y1, .string ⟨y2.toArray⟩, .int .i64 y3, .int .i64 y4] 32) = W := ⟨_, rfl⟩
            rw [hW8] at hm8 hg8
            obtain ⟨b8, hb8⟩ : ∃ b, w7.heap.size = b := ⟨_, rfl⟩
            rw [hb8] at hm8
            have H8 := Lib.hid (And.intro (H6.out.1.grow (Grows.trans hg7 hg8)) (And.intro ((Grows.trans hg7 hg8).whole H6.out.2) hm8))
            clear hg7 hm8 hg8
            have qq := H8.out.2.1
            have k0 := qq.cell 0
            have k1 := qq.cell 1
            have k2 := qq.cell 2
            have k3 := qq.cell 3
            have k4 := qq.cell 4
            simp only [List.getElem?_toArray, List.getElem?_cons_zero, List.getElem?_cons_succ] at k0 k1 k2 k3 k4
            clear qq
            have qq := H8.out.2.2
            have j0 := qq.cell 0
            have j1 := qq.cell 1
            have j2 := qq.cell 2
            have j3 := qq.cell 3
            have j4 := qq.cell 4
            simp only [List.getElem?_toArray, List.getElem?_cons_zero, List.getElem?_cons_succ] at j0 j1 j2 j3 j4
            clear qq
            have z2 := HEQ2.out W8
            go_wp2_with (first | rw [hW8] | fail)
            go_roundw
            case rel => exact ⟨i + 1, kputL ⟨q0, q1, q2, q3, q4⟩ L, ⟨y0, y1, y2, y3, y4⟩, xk, tk, by omega, by first | rfl | go_num, rfl, Lib.hid ⟨H8.out.1, H8.out.2.1, by have h1 := putL_len ⟨q0, q1, q2, q3, q4⟩ L; have h2 := HJ.out.2.2.1; omega, HJ.out.2.2.2⟩, Lib.hid ⟨((get_put_other HJ.out.1.inc ⟨q0, q1, q2, q3, q4⟩ (fun e => HOWN.out e.symm)).trans HXK.out.1), HXK.out.2⟩⟩
            case measure => simp [intOf]; omega
          · have HOWN := Lib.hid (show q2 = key from by simpa using howe)
            have hx0 : ∃ x, getL q2 L = x := ⟨_, rfl⟩
            obtain ⟨x0, hx0⟩ := hx0
            obtain ⟨v, hv⟩ : ∃ v, x0.getD Pl.zero = v := ⟨_, rfl⟩
            obtain ⟨s, hs⟩ : ∃ s, x0.isSome = s := ⟨_, rfl⟩
            have hpl : plTo x0 = .tuple #[plV v, .bool s] := by unfold plTo; rw [hv, hs]
            obtain ⟨v0, v1, v2, v3, v4⟩ := v
            have HPL := Lib.hid (show plTo x0 = .tuple #[.agg #[.int .i64 v0, .int .i64 v1, .string ⟨v2.toArray⟩, .int .i64 v3, .int .i64 v4], .bool s] from hpl)
            have HX0 := Lib.hid hx0
            clear hx0 hv hs hpl
            have HGE := Lib.hid (show Calls Try.prog 15 #[.pointer (some ⟨d, 0, none⟩), .string ⟨q2.toArray⟩] W1 fun e w' => e = .returned (.tuple #[.agg #[.int .i64 v0, .int .i64 v1, .string ⟨v2.toArray⟩, .int .i64 v3, .int .i64 v4], .bool s]) ∧ Grows W1 w' from by
              rw [← HPL.out]
              exact get_at q2 (HJ.out.1.grow HW1.out.1) (by have := HQK.out; omega) (by have := HLL.out; omega) HX0.out)
            have hss : (s != s) = false := by simp
            have HEQ := Lib.hid (show ∀ w', (Op.equalIn 10000 32 (.agg #[.int .i64 v0, .int .i64 v1, .string ⟨v2.toArray⟩, .int .i64 v3, .int .i64 v4]) (.agg #[.int .i64 v0, .int .i64 v1, .string ⟨v2.toArray⟩, .int .i64 v3, .int .i64 v4])).run Try.prog w' = .ok true w' from fun w' => (eq_pl ⟨v0, v1, v2, v3, v4⟩ ⟨v0, v1, v2, v3, v4⟩ w').trans (by rw [decide_eq_true rfl]))
            go_wp2_with (first | rw [hW1] | fail)
            refine HGE.out.mono ?_
            rintro e w2 ⟨rfl, hg2⟩
            have hm3 := Whole.made w2 32 #[.int .i64 v0, .int .i64 v1, .string ⟨v2.toArray⟩, .int .i64 v3, .int .i64 v4]
            have hg3 := grows_alloc w2 (.cells #[.int .i64 v0, .int .i64 v1, .string ⟨v2.toArray⟩, .int .i64 v3, .int .i64 v4] 32)
            obtain ⟨W3, hW3⟩ : ∃ W, w2.alloc (.cells #[.int .i64 v0, .int .i64 v1, .string ⟨v2.toArray⟩, .int .i64 v3, .int .i64 v4] 32) = W := ⟨_, rfl⟩
            rw [hW3] at hm3 hg3
            obtain ⟨b3, hb3⟩ : ∃ b, w2.heap.size = b := ⟨_, rfl⟩
            rw [hb3] at hm3
            have hgr3 := Grows.trans hg2 hg3
            have H3 := Lib.hid (And.intro (Grows.trans HW1.out.1 hgr3) (And.intro hm3 (And.intro (hgr3.whole HW1.out.2.1) (show wr.heap.size ≤ b3 ∧ b3 < W3.heap.size ∧ ob < W3.heap.size from by have := HW1.out.1.size; have := hg2.size; have := hm3.lt; have := (hgr3.whole HW1.out.2.1).lt; omega))))
            have qq := H3.out.2.2.1
            have f0 := qq.cell 0
            have f1 := qq.cell 1
            have f2 := qq.cell 2
            have f3 := qq.cell 3
            have f4 := qq.cell 4
            have f5 := qq.cell 5
            have f6 := qq.cell 6
            simp only [List.getElem?_toArray, List.getElem?_cons_zero, List.getElem?_cons_succ] at f0 f1 f2 f3 f4 f5 f6
            clear qq
            clear hg2 hm3 hg3 hgr3 c0 c1 c2 c3 c4 c5 c6
            have hk3 := HJ.out.1.more H3.out.1
            have HCA := Lib.hid (show Calls Try.prog 20 #[.pointer (some ⟨d, 0, none⟩), .agg #[.int .i64 q0, .int .i64 q1, .string ⟨q2.toArray⟩, .int .i64 q3, .int .i64 q4]] W3 fun e w' => e = .returned (.tuple #[.agg #[.int .i64 v0, .int .i64 v1, .string ⟨v2.toArray⟩, .int .i64 v3, .int .i64 v4], .bool s]) ∧ KsIn w.heap.size w w' d (fun k => k = wb ∨ (wr.heap.size ≤ k ∧ k < W3.heap.size)) (kputL ⟨q0, q1, q2, q3, q4⟩ L) ∧ KStays w.heap.size (fun k => k = wb ∨ (wr.heap.size ≤ k ∧ k < W3.heap.size)) W3 w' from by
              rw [← HPL.out]
              exact put_at ⟨q0, q1, q2, q3, q4⟩ hk3 (by show q2.length ≤ _; have := HQK.out; omega) (by have := HLL.out; omega) HX0.out rfl)
            clear hk3
            go_wp2_with (first | rw [hW3] | fail)
            clear hW3 hW1 hb3
            refine HCA.out.mono ?_
            rintro e w4 ⟨rfl, hk4, hs4⟩
            have hm5 := Whole.made w4 32 #[.int .i64 v0, .int .i64 v1, .string ⟨v2.toArray⟩, .int .i64 v3, .int .i64 v4]
            have hg5 := grows_alloc w4 (.cells #[.int .i64 v0, .int .i64 v1, .string ⟨v2.toArray⟩, .int .i64 v3, .int .i64 v4] 32)
            obtain ⟨W5, hW5⟩ : ∃ W, w4.alloc (.cells #[.int .i64 v0, .int .i64 v1, .string ⟨v2.toArray⟩, .int .i64 v3, .int .i64 v4] 32) = W := ⟨_, rfl⟩
            rw [hW5] at hm5 hg5
            obtain ⟨b5, hb5⟩ : ∃ b, w4.heap.size = b := ⟨_, rfl⟩
            rw [hb5] at hm5
            have hsz := HJ.out.2.1.lt
            have hb3l := H3.out.2.2.2
            have hkb : ∀ k, wr.heap.size ≤ k → k < W3.heap.size → W5.heap[k]? = W3.heap[k]? := fun k h1 h2 => (hg5.block k (by have := hs4.size; omega)).trans (hs4.keep h2 (.inr (.inr ⟨h1, h2⟩)))
            have hm3 : Whole W5 b3 32 #[.int .i64 v0, .int .i64 v1, .string ⟨v2.toArray⟩, .int .i64 v3, .int .i64 v4] := (hkb b3 hb3l.1 hb3l.2.1).trans H3.out.2.1
            have hmo : Whole W5 ob 34 #[.int .i64 qw, .int .i64 q0, .int .i64 q1, .string ⟨q2.toArray⟩, .int .i64 q3, .int .i64 q4, .int .i64 qn] := (hkb ob (by have := HW1.out.2.2; omega) hb3l.2.2).trans H3.out.2.2.1
            have hmw : Whole W5 wb 32 #[.int .i64 y0, .int .i64 y1, .string ⟨y2.toArray⟩, .int .i64 y3, .int .i64 y4] := (hg5.block wb (by have := hs4.size; have := H3.out.1.size; omega)).trans ((hs4.keep (by have := H3.out.1.size; omega) (.inr (.inl rfl))).trans (H3.out.1.whole HJ.out.2.1))
            have H5 := Lib.hid (And.intro (hk4.grow hg5) (And.intro hm3 (And.intro hmo (And.intro hmw hm5))))
            clear f0 f1 f2 f3 f4 f5 f6
            have qq := H5.out.2.2.1
            have f0 := qq.cell 0
            have f1 := qq.cell 1
            have f2 := qq.cell 2
            have f3 := qq.cell 3
            have f4 := qq.cell 4
            have f5 := qq.cell 5
            have f6 := qq.cell 6
            simp only [List.getElem?_toArray, List.getElem?_cons_zero, List.getElem?_cons_succ] at f0 f1 f2 f3 f4 f5 f6
            clear qq
            have qq := H5.out.2.1
            have g0 := qq.cell 0
            have g1 := qq.cell 1
            have g2 := qq.cell 2
            have g3 := qq.cell 3
            have g4 := qq.cell 4
            simp only [List.getElem?_toArray, List.getElem?_cons_zero, List.getElem?_cons_succ] at g0 g1 g2 g3 g4
            clear qq
            have qq := H5.out.2.2.2.2
            have h0 := qq.cell 0
            have h1 := qq.cell 1
            have h2 := qq.cell 2
            have h3 := qq.cell 3
            have h4 := qq.cell 4
            simp only [List.getElem?_toArray, List.getElem?_cons_zero, List.getElem?_cons_succ] at h0 h1 h2 h3 h4
            clear qq
            have z1 := HEQ.out W5
            clear hk4 hs4 hm5 hg5 hsz hb3l hkb hm3 hmo hmw HCA
            obtain ⟨W6, hW6⟩ : ∃ W, W5.setRow wb #[.int .i64 q0, .int .i64 q1, .string ⟨q2.toArray⟩, .int .i64 q3, .int .i64 q4] = W := ⟨_, rfl⟩
            have hoth6 : ∀ k, k ≠ wb → W6.heap[k]? = W5.heap[k]? := fun k hk => by rw [← hW6]; exact setRow_other W5 wb k _ hk
            have hm6 : Whole W6 wb 32 #[.int .i64 q0, .int .i64 q1, .string ⟨q2.toArray⟩, .int .i64 q3, .int .i64 q4] := by rw [← hW6]; exact H5.out.2.2.2.1.rowed _
            have hs6 : Spares (fun k => k = wb) W5 W6 := ⟨by rw [← hW6]; rfl, by rw [← hW6]; rfl, by rw [← hW6]; rfl, by rw [← hW6]; simp, fun k _ hk => hoth6 k hk⟩
            have hk6 := H5.out.1.other hs6 (fun k hk _ => .inl hk) (fun k hk => by have := HJ.out.2.2.2; omega)
            have H6 := Lib.hid (And.intro (hk6.less (out' := fun k => k = wb) fun k hk => .inl hk) hm6)
            clear hoth6 hm6 hs6 hk6
            have HG7 := Lib.hid (show Calls Try.prog 15 #[.pointer (some ⟨d, 0, none⟩), .string ⟨key.toArray⟩] W6 fun e w' => e = .returned (.tuple #[.agg #[.int .i64 q0, .int .i64 q1, .string ⟨q2.toArray⟩, .int .i64 q3, .int .i64 q4], .bool true]) ∧ Grows W6 w' from by
              exact get_at key H6.out.1 (by have := HKL.out; omega) (by have h1 := putL_len ⟨q0, q1, q2, q3, q4⟩ L; have h2 := HLL.out; omega) (show getL key (kputL ⟨q0, q1, q2, q3, q4⟩ L) = some ⟨q0, q1, q2, q3, q4⟩ from by rw [← HOWN.out]; exact get_put_same HJ.out.1.inc ⟨q0, q1, q2, q3, q4⟩))
            have HEQ2 := Lib.hid (show ∀ w', (Op.equalIn 10000 32 (.agg #[.int .i64 q0, .int .i64 q1, .string ⟨q2.toArray⟩, .int .i64 q3, .int .i64 q4]) (.agg #[.int .i64 q0, .int .i64 q1, .string ⟨q2.toArray⟩, .int .i64 q3, .int .i64 q4])).run Try.prog w' = .ok true w' from fun w' => (eq_pl ⟨q0, q1, q2, q3, q4⟩ ⟨q0, q1, q2, q3, q4⟩ w').trans (by rw [decide_eq_true rfl]))
            have htt : (tk != tk) = false := by simp
            go_wp2_with (first | rw [hW5] | rw [hW6] | (refine wpList_store_row rfl 32 _ _ rfl wb #[.int .i64 q0, .int .i64 q1, .string ⟨q2.toArray⟩, .int .i64 q3, .int .i64 q4] rfl rfl 32 _ H5.out.2.2.2.1 sizePl rfl (plV_one _ _ _ _ _) ?_; rw [hW6]) | fail)
            refine HG7.out.mono ?_
            rintro e w7 ⟨rfl, hg7⟩
            have hm8 := Whole.made w7 32 #[.int .i64 q0, .int .i64 q1, .string ⟨q2.toArray⟩, .int .i64 q3, .int .i64 q4]
            have hg8 := grows_alloc w7 (.cells #[.int .i64 q0, .int .i64 q1, .string ⟨q2.toArray⟩, .int .i64 q3, .int .i64 q4] 32)
            obtain ⟨W8, hW8⟩ : ∃ W, w7.alloc (.cells #[.int .i64 q0, .int .i64 q1, .string ⟨q2.toArray⟩, .int .i64 q3, .int .i64 q4] 32) = W := ⟨_, rfl⟩
            rw [hW8] at hm8 hg8
            obtain ⟨b8, hb8⟩ : ∃ b, w7.heap.size = b := ⟨_, rfl⟩
            rw [hb8] at hm8
            have H8 := Lib.hid (And.intro (H6.out.1.grow (Grows.trans hg7 hg8)) (And.intro ((Grows.trans hg7 hg8).whole H6.out.2) hm8))
            clear hg7 hm8 hg8
            have qq := H8.out.2.1
            have k0 := qq.cell 0
            have k1 := qq.cell 1
            have k2 := qq.cell 2
            have k3 := qq.cell 3
            have k4 := qq.cell 4
            simp only [List.getElem?_toArray, List.getElem?_cons_zero, List.getElem?_cons_succ] at k0 k1 k2 k3 k4
            clear qq
            have qq := H8.out.2.2
            have j0 := qq.cell 0
            have j1 := qq.cell 1
            have j2 := qq.cell 2
            have j3 := qq.cell 3
            have j4 := qq.cell 4
            simp only [List.getElem?_toArray, List.getElem?_cons_zero, List.getElem?_cons_succ] at j0 j1 j2 j3 j4
            clear qq
            have z2 := HEQ2.out W8
            go_wp2_with (first | rw [hW8] | fail)
            go_roundw
            case rel => exact ⟨i + 1, kputL ⟨q0, q1, q2, q3, q4⟩ L, ⟨q0, q1, q2, q3, q4⟩, some ⟨q0, q1, q2, q3, q4⟩, true, by omega, by first | rfl | go_num, rfl, Lib.hid ⟨H8.out.1, H8.out.2.1, by have h1 := putL_len ⟨q0, q1, q2, q3, q4⟩ L; have h2 := HJ.out.2.2.1; omega, HJ.out.2.2.2⟩, Lib.hid ⟨(show getL key (kputL ⟨q0, q1, q2, q3, q4⟩ L) = some ⟨q0, q1, q2, q3, q4⟩ from by rw [← HOWN.out]; exact get_put_same HJ.out.1.inc ⟨q0, q1, q2, q3, q4⟩), rfl⟩⟩
            case measure => simp [intOf]; omega
        · rcases howe : (q2 == key) with _ | _
          · have hx0 : ∃ x, getL q2 L = x := ⟨_, rfl⟩
            obtain ⟨x0, hx0⟩ := hx0
            obtain ⟨v, hv⟩ : ∃ v, x0.getD Pl.zero = v := ⟨_, rfl⟩
            obtain ⟨s, hs⟩ : ∃ s, x0.isSome = s := ⟨_, rfl⟩
            have hpl : plTo x0 = .tuple #[plV v, .bool s] := by unfold plTo; rw [hv, hs]
            obtain ⟨v0, v1, v2, v3, v4⟩ := v
            have HPL := Lib.hid (show plTo x0 = .tuple #[.agg #[.int .i64 v0, .int .i64 v1, .string ⟨v2.toArray⟩, .int .i64 v3, .int .i64 v4], .bool s] from hpl)
            have HX0 := Lib.hid hx0
            clear hx0 hv hs hpl
            have HGE := Lib.hid (show Calls Try.prog 15 #[.pointer (some ⟨d, 0, none⟩), .string ⟨q2.toArray⟩] W1 fun e w' => e = .returned (.tuple #[.agg #[.int .i64 v0, .int .i64 v1, .string ⟨v2.toArray⟩, .int .i64 v3, .int .i64 v4], .bool s]) ∧ Grows W1 w' from by
              rw [← HPL.out]
              exact get_at q2 (HJ.out.1.grow HW1.out.1) (by have := HQK.out; omega) (by have := HLL.out; omega) HX0.out)
            have hss : (s != s) = false := by simp
            have HEQ := Lib.hid (show ∀ w', (Op.equalIn 10000 32 (.agg #[.int .i64 v0, .int .i64 v1, .string ⟨v2.toArray⟩, .int .i64 v3, .int .i64 v4]) (.agg #[.int .i64 v0, .int .i64 v1, .string ⟨v2.toArray⟩, .int .i64 v3, .int .i64 v4])).run Try.prog w' = .ok true w' from fun w' => (eq_pl ⟨v0, v1, v2, v3, v4⟩ ⟨v0, v1, v2, v3, v4⟩ w').trans (by rw [decide_eq_true rfl]))
            go_wp2_with (first | rw [hW1] | fail)
            refine HGE.out.mono ?_
            rintro e w2 ⟨rfl, hg2⟩
            have hm3 := Whole.made w2 32 #[.int .i64 v0, .int .i64 v1, .string ⟨v2.toArray⟩, .int .i64 v3, .int .i64 v4]
            have hg3 := grows_alloc w2 (.cells #[.int .i64 v0, .int .i64 v1, .string ⟨v2.toArray⟩, .int .i64 v3, .int .i64 v4] 32)
            obtain ⟨W3, hW3⟩ : ∃ W, w2.alloc (.cells #[.int .i64 v0, .int .i64 v1, .string ⟨v2.toArray⟩, .int .i64 v3, .int .i64 v4] 32) = W := ⟨_, rfl⟩
            rw [hW3] at hm3 hg3
            obtain ⟨b3, hb3⟩ : ∃ b, w2.heap.size = b := ⟨_, rfl⟩
            rw [hb3] at hm3
            have hgr3 := Grows.trans hg2 hg3
            have H3 := Lib.hid (And.intro (Grows.trans HW1.out.1 hgr3) (And.intro hm3 (And.intro (hgr3.whole HW1.out.2.1) (show wr.heap.size ≤ b3 ∧ b3 < W3.heap.size ∧ ob < W3.heap.size from by have := HW1.out.1.size; have := hg2.size; have := hm3.lt; have := (hgr3.whole HW1.out.2.1).lt; omega))))
            have qq := H3.out.2.2.1
            have f0 := qq.cell 0
            have f1 := qq.cell 1
            have f2 := qq.cell 2
            have f3 := qq.cell 3
            have f4 := qq.cell 4
            have f5 := qq.cell 5
            have f6 := qq.cell 6
            simp only [List.getElem?_toArray, List.getElem?_cons_zero, List.getElem?_cons_succ] at f0 f1 f2 f3 f4 f5 f6
            clear qq
            clear hg2 hm3 hg3 hgr3 c0 c1 c2 c3 c4 c5 c6
            have H6 := Lib.hid (And.intro (HJ.out.1.grow H3.out.1) (H3.out.1.whole HJ.out.2.1))
            have HG7 := Lib.hid (show Calls Try.prog 15 #[.pointer (some ⟨d, 0, none⟩), .string ⟨key.toArray⟩] W3 fun e w' => e = .returned (.tuple #[.agg #[.int .i64 y0, .int .i64 y1, .string ⟨y2.toArray⟩, .int .i64 y3, .int .i64 y4], .bool tk]) ∧ Grows W3 w' from by
              rw [← HXK.out.2]
              exact get_at key H6.out.1 (by have := HKL.out; omega) (by have h1 := Nat.le_refl L.length; have h2 := HLL.out; omega) HXK.out.1)
            have HEQ2 := Lib.hid (show ∀ w', (Op.equalIn 10000 32 (.agg #[.int .i64 y0, .int .i64 y1, .string ⟨y2.toArray⟩, .int .i64 y3, .int .i64 y4]) (.agg #[.int .i64 y0, .int .i64 y1, .string ⟨y2.toArray⟩, .int .i64 y3, .int .i64 y4])).run Try.prog w' = .ok true w' from fun w' => (eq_pl ⟨y0, y1, y2, y3, y4⟩ ⟨y0, y1, y2, y3, y4⟩ w').trans (by rw [decide_eq_true rfl]))
            have htt : (tk != tk) = false := by simp
            go_wp2_with (first | rw [hW3] | fail)
            refine HG7.out.mono ?_
            rintro e w7 ⟨rfl, hg7⟩
            have hm8 := Whole.made w7 32 #[.int .i64 y0, .int .i64 y1, .string ⟨y2.toArray⟩, .int .i64 y3, .int .i64 y4]
            have hg8 := grows_alloc w7 (.cells #[.int .i64 y0, .int .i64 y1, .string ⟨y2.toArray⟩, .int .i64 y3, .int .i64 y4] 32)
            obtain ⟨W8, hW8⟩ : ∃ W, w7.alloc (.cells #[.int .i64 y0, .int .i64 y1, .string ⟨y2.toArray⟩, .int .i64 y3, .int .i64 y4] 32) = W := ⟨_, rfl⟩
            rw [hW8] at hm8 hg8
            obtain ⟨b8, hb8⟩ : ∃ b, w7.heap.size = b := ⟨_, rfl⟩
            rw [hb8] at hm8
            have H8 := Lib.hid (And.intro (H6.out.1.grow (Grows.trans hg7 hg8)) (And.intro ((Grows.trans hg7 hg8).whole H6.out.2) hm8))
            clear hg7 hm8 hg8
            have qq := H8.out.2.1
            have k0 := qq.cell 0
            have k1 := qq.cell 1
            have k2 := qq.cell 2
            have k3 := qq.cell 3
            have k4 := qq.cell 4
            simp only [List.getElem?_toArray, List.getElem?_cons_zero, List.getElem?_cons_succ] at k0 k1 k2 k3 k4
            clear qq
            have qq := H8.out.2.2
            have j0 := qq.cell 0
            have j1 := qq.cell 1
            have j2 := qq.cell 2
            have j3 := qq.cell 3
            have j4 := qq.cell 4
            simp only [List.getElem?_toArray, List.getElem?_cons_zero, List.getElem?_cons_succ] at j0 j1 j2 j3 j4
            clear qq
            have z2 := HEQ2.out W8
            go_wp2_with (first | rw [hW8] | fail)
            go_roundw
            case rel => exact ⟨i + 1, L, ⟨y0, y1, y2, y3, y4⟩, xk, tk, by omega, by first | rfl | go_num, rfl, Lib.hid ⟨H8.out.1, H8.out.2.1, by have h1 := Nat.le_refl L.length; have h2 := HJ.out.2.2.1; omega, HJ.out.2.2.2⟩, Lib.hid ⟨HXK.out.1, HXK.out.2⟩⟩
            case measure => simp [intOf]; omega
          · have hx0 : ∃ x, getL q2 L = x := ⟨_, rfl⟩
            obtain ⟨x0, hx0⟩ := hx0
            obtain ⟨v, hv⟩ : ∃ v, x0.getD Pl.zero = v := ⟨_, rfl⟩
            obtain ⟨s, hs⟩ : ∃ s, x0.isSome = s := ⟨_, rfl⟩
            have hpl : plTo x0 = .tuple #[plV v, .bool s] := by unfold plTo; rw [hv, hs]
            obtain ⟨v0, v1, v2, v3, v4⟩ := v
            have HPL := Lib.hid (show plTo x0 = .tuple #[.agg #[.int .i64 v0, .int .i64 v1, .string ⟨v2.toArray⟩, .int .i64 v3, .int .i64 v4], .bool s] from hpl)
            have HX0 := Lib.hid hx0
            clear hx0 hv hs hpl
            have HGE := Lib.hid (show Calls Try.prog 15 #[.pointer (some ⟨d, 0, none⟩), .string ⟨q2.toArray⟩] W1 fun e w' => e = .returned (.tuple #[.agg #[.int .i64 v0, .int .i64 v1, .string ⟨v2.toArray⟩, .int .i64 v3, .int .i64 v4], .bool s]) ∧ Grows W1 w' from by
              rw [← HPL.out]
              exact get_at q2 (HJ.out.1.grow HW1.out.1) (by have := HQK.out; omega) (by have := HLL.out; omega) HX0.out)
            have hss : (s != s) = false := by simp
            have HEQ := Lib.hid (show ∀ w', (Op.equalIn 10000 32 (.agg #[.int .i64 v0, .int .i64 v1, .string ⟨v2.toArray⟩, .int .i64 v3, .int .i64 v4]) (.agg #[.int .i64 v0, .int .i64 v1, .string ⟨v2.toArray⟩, .int .i64 v3, .int .i64 v4])).run Try.prog w' = .ok true w' from fun w' => (eq_pl ⟨v0, v1, v2, v3, v4⟩ ⟨v0, v1, v2, v3, v4⟩ w').trans (by rw [decide_eq_true rfl]))
            go_wp2_with (first | rw [hW1] | fail)
            refine HGE.out.mono ?_
            rintro e w2 ⟨rfl, hg2⟩
            have hm3 := Whole.made w2 32 #[.int .i64 v0, .int .i64 v1, .string ⟨v2.toArray⟩, .int .i64 v3, .int .i64 v4]
            have hg3 := grows_alloc w2 (.cells #[.int .i64 v0, .int .i64 v1, .string ⟨v2.toArray⟩, .int .i64 v3, .int .i64 v4] 32)
            obtain ⟨W3, hW3⟩ : ∃ W, w2.alloc (.cells #[.int .i64 v0, .int .i64 v1, .string ⟨v2.toArray⟩, .int .i64 v3, .int .i64 v4] 32) = W := ⟨_, rfl⟩
            rw [hW3] at hm3 hg3
            obtain ⟨b3, hb3⟩ : ∃ b, w2.heap.size = b := ⟨_, rfl⟩
            rw [hb3] at hm3
            have hgr3 := Grows.trans hg2 hg3
            have H3 := Lib.hid (And.intro (Grows.trans HW1.out.1 hgr3) (And.intro hm3 (And.intro (hgr3.whole HW1.out.2.1) (show wr.heap.size ≤ b3 ∧ b3 < W3.heap.size ∧ ob < W3.heap.size from by have := HW1.out.1.size; have := hg2.size; have := hm3.lt; have := (hgr3.whole HW1.out.2.1).lt; omega))))
            have qq := H3.out.2.2.1
            have f0 := qq.cell 0
            have f1 := qq.cell 1
            have f2 := qq.cell 2
            have f3 := qq.cell 3
            have f4 := qq.cell 4
            have f5 := qq.cell 5
            have f6 := qq.cell 6
            simp only [List.getElem?_toArray, List.getElem?_cons_zero, List.getElem?_cons_succ] at f0 f1 f2 f3 f4 f5 f6
            clear qq
            clear hg2 hm3 hg3 hgr3 c0 c1 c2 c3 c4 c5 c6
            have H6 := Lib.hid (And.intro (HJ.out.1.grow H3.out.1) (H3.out.1.whole HJ.out.2.1))
            have HG7 := Lib.hid (show Calls Try.prog 15 #[.pointer (some ⟨d, 0, none⟩), .string ⟨key.toArray⟩] W3 fun e w' => e = .returned (.tuple #[.agg #[.int .i64 y0, .int .i64 y1, .string ⟨y2.toArray⟩, .int .i64 y3, .int .i64 y4], .bool tk]) ∧ Grows W3 w' from by
              rw [← HXK.out.2]
              exact get_at key H6.out.1 (by have := HKL.out; omega) (by have h1 := Nat.le_refl L.length; have h2 := HLL.out; omega) HXK.out.1)
            have HEQ2 := Lib.hid (show ∀ w', (Op.equalIn 10000 32 (.agg #[.int .i64 y0, .int .i64 y1, .string ⟨y2.toArray⟩, .int .i64 y3, .int .i64 y4]) (.agg #[.int .i64 y0, .int .i64 y1, .string ⟨y2.toArray⟩, .int .i64 y3, .int .i64 y4])).run Try.prog w' = .ok true w' from fun w' => (eq_pl ⟨y0, y1, y2, y3, y4⟩ ⟨y0, y1, y2, y3, y4⟩ w').trans (by rw [decide_eq_true rfl]))
            have htt : (tk != tk) = false := by simp
            go_wp2_with (first | rw [hW3] | fail)
            refine HG7.out.mono ?_
            rintro e w7 ⟨rfl, hg7⟩
            have hm8 := Whole.made w7 32 #[.int .i64 y0, .int .i64 y1, .string ⟨y2.toArray⟩, .int .i64 y3, .int .i64 y4]
            have hg8 := grows_alloc w7 (.cells #[.int .i64 y0, .int .i64 y1, .string ⟨y2.toArray⟩, .int .i64 y3, .int .i64 y4] 32)
            obtain ⟨W8, hW8⟩ : ∃ W, w7.alloc (.cells #[.int .i64 y0, .int .i64 y1, .string ⟨y2.toArray⟩, .int .i64 y3, .int .i64 y4] 32) = W := ⟨_, rfl⟩
            rw [hW8] at hm8 hg8
            obtain ⟨b8, hb8⟩ : ∃ b, w7.heap.size = b := ⟨_, rfl⟩
            rw [hb8] at hm8
            have H8 := Lib.hid (And.intro (H6.out.1.grow (Grows.trans hg7 hg8)) (And.intro ((Grows.trans hg7 hg8).whole H6.out.2) hm8))
            clear hg7 hm8 hg8
            have qq := H8.out.2.1
            have k0 := qq.cell 0
            have k1 := qq.cell 1
            have k2 := qq.cell 2
            have k3 := qq.cell 3
            have k4 := qq.cell 4
            simp only [List.getElem?_toArray, List.getElem?_cons_zero, List.getElem?_cons_succ] at k0 k1 k2 k3 k4
            clear qq
            have qq := H8.out.2.2
            have j0 := qq.cell 0
            have j1 := qq.cell 1
            have j2 := qq.cell 2
            have j3 := qq.cell 3
            have j4 := qq.cell 4
            simp only [List.getElem?_toArray, List.getElem?_cons_zero, List.getElem?_cons_succ] at j0 j1 j2 j3 j4
            clear qq
            have z2 := HEQ2.out W8
            go_wp2_with (first | rw [hW8] | fail)
            go_roundw
            case rel => exact ⟨i + 1, L, ⟨y0, y1, y2, y3, y4⟩, xk, tk, by omega, by first | rfl | go_num, rfl, Lib.hid ⟨H8.out.1, H8.out.2.1, by have h1 := Nat.le_refl L.length; have h2 := HJ.out.2.2.1; omega, HJ.out.2.2.2⟩, Lib.hid ⟨HXK.out.1, HXK.out.2⟩⟩
            case measure => simp [intOf]; omega
    · go_wp2_with (fail)
      go_ret
      exact ⟨rfl, HJ.out.1.low⟩

set_option maxRecDepth 100000 in
theorem keysMap_lifted (os : Os) (started : os.Started) (H : Type) (enc : TypeId × Value → H) :
    ReturnsInHanded {} Try.checked os 4 .any (Rows.keysMapSpec.pre6 enc Try.prog Try.f4 Rows.keysMapRow.domain false) (Rows.keysMapSpec.post enc Try.prog Try.f4 false true false false) := by
  refine lift_law (C := Try.checked) H enc own started (by kernel_rfl) Try.func4
    (ChangeSpec.witness6 (enc := enc) (C := Try.checked) false ⟨#[], #[.slice none 0 0, .string ⟨#[]⟩], []⟩ 16 (by kernel_rfl) (by kernel_rfl) (by kernel_rfl) (by kernel_rfl))
    laidOut (of_readable (by kernel_rfl)) rfl Try.underlying4 rfl (fun ds hd => ?_) (fun W base args ds p hval hA hsz => ?_)
  · match ds, hd with
    | [d1, d2], _ => rfl
  · rw [Try.params4] at hA hval hsz
    obtain ⟨v0, vs0, d0, ds0, p0, q0, hargs, rfl, rfl, h0, r0⟩ := trodAll_cons hA
    obtain ⟨v1, vs1, d1, ds1, p1, q1, rfl, rfl, rfl, h1, r1⟩ := trodAll_cons r0
    obtain ⟨rfl, rfl, rfl⟩ := trodAll_nil r1
    obtain rfl : args = #[v0, v1] := by cases args; simp_all
    obtain ⟨A0, n0, c0, xs0, rfl, hx0⟩ := open_ops13 (hval 0 22 v0 rfl rfl) h0
    obtain ⟨l1, rfl, hl1⟩ := open_text Try.underlying9 (hval 1 9 v1 rfl rfl) h1
    exact keysMap_law W A0 n0 c0 xs0 hx0 l1 hl1

theorem keysMap_over : Rows.keysMapRow.holds Try.pinned (OpenSpec.ofChange Rows.keysMapSpec) :=
  OpenClaim.holds_of_wide 4 Try.f4 rfl rfl rfl rfl rfl rfl rfl ⟨rfl, rfl, rfl, rfl, rfl⟩ rfl rfl rfl rfl rfl (by kernel_rfl) Try.func4 (by kernel_rfl)
    (of_decide_eq_true (by kernel_rfl)) (by unfold Func.isWrapper; first | (rw [if_pos (by decide +kernel)]; kernel_rfl) | (rw [if_neg (by decide +kernel)]; exact ⟨rfl, rfl⟩))
    (fun os started H enc _ => keysMap_lifted os started H enc)
theorem keysMap_holds : Rows.KeysMapSaid := keysMap_over
end Go.Proofs.Ytadgbobemmfjoaa