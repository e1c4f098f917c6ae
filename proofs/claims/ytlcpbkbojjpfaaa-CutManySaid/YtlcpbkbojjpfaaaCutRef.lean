/-
  The document's answer to package cut, in memory: New, Size, Left, Rest; a string's bytes in new memory; lists of pieces compared.
-/
import Derived.Test.YtlcpbkbojjpfaaaRowsIn
import Derived.Test.YtlcpbkbojjpfaaaSteps
import Derived.Test.YtlcpbkbojjpfaaaWalkBits
import Derived.Test.YtlcpbkbojjpfaaaCutPlain
import Derived.Test.YtlcpbkbojjpfaaaRange
import Derived.Lib.Hide
import Derived.IntWalk
import Derived.LoopTactic
import Derived.Laws.IdiomStrings
namespace Go.Proofs.Ytlcpbkbojjpfaaa
open Go.RowKit
set_option linter.unusedVariables false
set_option linter.unusedSimpArgs false

theorem bytes_size (l : List UInt8) : (⟨l.toArray⟩ : ByteArray).size = l.length := by simp [ByteArray.size]
theorem bytes_add (a b : List UInt8) : (⟨a.toArray⟩ : ByteArray) ++ (⟨b.toArray⟩ : ByteArray) = ⟨(a ++ b).toArray⟩ := by
  apply ByteArray.ext
  rw [ByteArray.data_append]
  simp

/-- '[]byte(s)': the string's bytes in new memory. -/
def NewRow (w : World) (g c : Nat) (L : List UInt8) : Prop := ∃ cs fr, w.heap[g]? = some (.cells cs 5 fr) ∧ Sl w (some ⟨g, 0, none⟩) L.length c L
theorem run_bytes (w : World) (L : List UInt8) : ∃ c w', (convert 9 23 (.string ⟨L.toArray⟩)).run Try.prog w = .ok (.slice (some ⟨w.heap.size, 0, none⟩) L.length c) w' ∧ NewRow w' w.heap.size c L ∧ Grows w w' := by
  refine ⟨_, _, by rw [run_bytes_of_string w 9 23 5 ⟨L.toArray⟩ Try.underlying9 Try.underlying23 Try.underlying5, bytes_size], ?_, ?_⟩
  · refine ⟨_, _, World.alloc_heap_new w.drew _, ⟨?_, ?_, fun h => by cases h⟩⟩
    · refine ⟨by simp, fun k v hk => ⟨_, rfl, by simp, ?_⟩⟩
      have hkl : k < L.length := by
        have := (List.getElem?_eq_some_iff.1 hk).1
        simpa using this
      rw [show (⟨w.heap.size, 0, none⟩ : Addr).add k = ⟨w.heap.size, k, none⟩ by unfold Addr.add; split <;> simp_all]
      rw [cell_of_row _ w.heap.size k _ _ _ (World.alloc_heap_new w.drew _)]
      unfold bytesRow
      rw [Array.getElem?_append_left (by simp [bytes_size]; exact hkl)]
      rw [← hk]
      simp
      rfl
    · exact bytes_size L ▸ grownCap_ge w _ _ _
  · exact Grows.trans (grows_drew w) (grows_alloc _ _)

/-- Bytes stay where something else is written. -/
theorem Sl.put' {w : World} {A : Option Addr} {n c : Nat} {bs : List UInt8} (h : Sl w A n c bs) {q : Addr} {v : Value} (hq : w.cell? q = some v) (hv : ∀ b, v ≠ byteV b) (u : Value) : Sl (w.setCell q u) A n c bs := by
  refine ⟨⟨Row.len h.bytes, fun k x hx => ?_⟩, h.cap, h.bare⟩
  obtain ⟨ad, e, hb, hc⟩ := Row.spot h.bytes k x hx
  have hs : (w.setCell q u).heap.size = w.heap.size := by simp [World.setCell]
  refine ⟨ad, e, by rw [hs]; exact hb, ?_⟩
  rw [World.cell?_setCell_other w q _ u fun e => ?_]
  · exact hc
  · rw [← e, hq] at hc
    injection hc with hc
    rw [List.getElem?_map] at hx
    rcases hb' : bs[k]? with _ | b
    · rw [hb'] at hx; cases hx
    · rw [hb'] at hx
      simp only [Option.map_some, Option.some.injEq] at hx
      exact hv b (hc.trans hx.symm)
theorem take_more {xs ys : List (List UInt8)} {k : Nat} (h : xs.take k = ys.take k) (hx : k < xs.length) (hy : k < ys.length) (he : xs.getD k [] = ys.getD k []) : xs.take (k + 1) = ys.take (k + 1) := by
  rw [List.take_add_one, List.take_add_one, h, List.getElem?_eq_getElem hx, List.getElem?_eq_getElem hy]
  have e1 : xs.getD k [] = xs[k] := by simp [hx]
  have e2 : ys.getD k [] = ys[k] := by simp [hy]
  rw [← e1, ← e2, he]

/-- The answer's cutter at block g. -/
def RefHas (w : World) (g P Z : Nat) (L : List UInt8) : Prop := Whole w g 91 #[.int .i64 (P : Nat), .int .i64 (Z : Nat), .string ⟨L.toArray⟩]
theorem RefHas.grow {w w' : World} {g P Z : Nat} {L : List UInt8} (h : RefHas w g P Z L) (hg : Grows w w') : RefHas w' g P Z L := (hg.block _ (Whole.lt h)).trans h

theorem new_ref (x : Int) (w : World) (hx : -9223372036854775808 ≤ x ∧ x < 9223372036854775808) : Calls Try.prog 32 #[.int .i64 x] w fun e w' =>
    (x < 1 ∨ 4096 < x) ∧ e = .returned (.pointer none) ∧ w' = w ∨ ∃ P : Nat, x = P ∧ 1 ≤ P ∧ P ≤ 4096 ∧ e = .returned (.pointer (some ⟨w.heap.size, 0, none⟩)) ∧ RefHas w' w.heap.size P 0 [] ∧ Grows w w' := by
  have hxx := Lib.hid hx
  by_cases h1 : x < 1
  · have d1 : decide (x < 1) = true := decide_eq_true h1
    have H1 := Lib.hid h1
    clear h1 hx
    go_enter Try.func32, Try.ntmps32
    go_wp2
    go_ret
    exact .inl ⟨.inl H1.out, rfl, rfl⟩
  · by_cases h2 : 4096 < x
    · have d1 : decide (x < 1) = false := by simpa using h1
      have d2 : decide (x > 4096) = true := by simpa using h2
      have H2 := Lib.hid h2
      clear h1 h2 hx
      go_enter Try.func32, Try.ntmps32
      go_wp2
      go_ret
      exact .inl ⟨.inr H2.out, rfl, rfl⟩
    · obtain ⟨P, rfl⟩ : ∃ P : Nat, x = P := ⟨x.toNat, by omega⟩
      have d1 : decide ((P : Int) < 1) = false := by simp; omega
      have d2 : decide ((P : Int) > 4096) = false := by simp; omega
      have HP := Lib.hid (show 1 ≤ P ∧ P ≤ 4096 by omega)
      clear h1 h2 hx
      go_enter Try.func32, Try.ntmps32
      go_wp2
      go_ret
      exact .inr ⟨P, rfl, HP.out.1, HP.out.2, rfl, Whole.made _ _ _, grows_alloc _ _⟩

theorem size_ref {g P Z : Nat} {L : List UInt8} (w : World) (h : RefHas w g P Z L) : Calls Try.prog 39 #[.pointer (some ⟨g, 0, none⟩)] w fun e w' => e = .returned (.int .i64 (Z : Nat)) ∧ w = w' := by
  have c1 := Whole.cell h 1
  simp only [List.getElem?_toArray, List.getElem?_cons_zero, List.getElem?_cons_succ] at c1
  clear h
  go_enter Try.func39, Try.ntmps39
  go_wp2
  go_ret
  exact ⟨rfl, rfl⟩
theorem left_ref {g P Z : Nat} {L : List UInt8} (w : World) (h : RefHas w g P Z L) : Calls Try.prog 41 #[.pointer (some ⟨g, 0, none⟩)] w fun e w' => e = .returned (.int .i64 (L.length : Nat)) ∧ w = w' := by
  have c2 := Whole.cell h 2
  simp only [List.getElem?_toArray, List.getElem?_cons_zero, List.getElem?_cons_succ] at c2
  have hz := bytes_size L
  clear h
  go_enter Try.func41, Try.ntmps41
  go_wp2
  go_ret
  exact ⟨by rw [← hz]; rfl, rfl⟩
theorem rest_ref {g P Z : Nat} {L : List UInt8} (w : World) (h : RefHas w g P Z L) : Calls Try.prog 34 #[.pointer (some ⟨g, 0, none⟩)] w fun e w' => ∃ A c, e = .returned (.slice A L.length c) ∧ Sl w' A L.length c L ∧ RefHas w' g P Z [] ∧ Spares (fun k => k = g) w w' := by
  have c2 := Whole.cell h 2
  simp only [List.getElem?_toArray, List.getElem?_cons_zero, List.getElem?_cons_succ] at c2
  obtain ⟨c, w1, hrun, hrow, hg⟩ := run_bytes w L
  have hw1 := h.grow hg
  have f2 := Whole.free hw1 2
  have d2 := Whole.cell hw1 2
  simp only [List.getElem?_toArray, List.getElem?_cons_zero, List.getElem?_cons_succ] at d2
  have H := Lib.hid (And.intro hw1 (And.intro hrow hg))
  clear h hw1 hrow hg
  go_enter Try.func34, Try.ntmps34
  go_wp2
  go_ret
  obtain ⟨hw1, ⟨cs, fr, hh, hsl⟩, hg⟩ := H.out
  have hlt : g < w.heap.size := by
    rcases Nat.lt_or_ge g w.heap.size with h | h
    · exact h
    · have := World.block_lt_of_cell? w _ c2
      dsimp only at this
      omega
  have hne : w.heap.size ≠ g := by omega
  refine ⟨_, c, rfl, hsl.put' d2 (fun b h => by cases h) _, Whole.put hw1 2 _, (Spares.grows hg).trans ((Spares.refl (fun k => k = g) _).setCell (p := ⟨g, 2, none⟩) rfl _)⟩


theorem bytes_inj {a b : List UInt8} : (⟨a.toArray⟩ : ByteArray) = ⟨b.toArray⟩ ↔ a = b := by
  constructor
  · intro h
    have := congrArg (fun x : ByteArray => x.data.toList) h
    simpa using this
  · rintro rfl; rfl
set_option maxRecDepth 100000 in
set_option maxHeartbeats 4000000 in
theorem same_lists (A : Option Addr) (n c : Nat) (xs : List (List UInt8)) (B : Option Addr) (m d : Nat) (ys : List (List UInt8)) (w : World) (hx : Lists w A n c xs) (hy : Lists w B m d ys) (hn : n ≤ 140737488351232) (hm : m ≤ 140737488351232) :
    Calls Try.prog 37 #[.slice A n c, .slice B m d] w fun e w' => e = .returned (.bool (decide (xs = ys))) ∧ Grows w w' := by
  have lx := hx.len
  have ly := hy.len
  have HX := Lib.hid hx
  have HY := Lib.hid hy
  clear hx hy
  by_cases hnm : n = m
  · subst hnm
    have hcx := HX.out.cap
    have hcy := HY.out.cap
    go_enter Try.func37, Try.ntmps37
    go_wp2_with (fail)
    go_loopw [5] (fun i wr => ∃ k, k ≤ n ∧ i = .int .i64 (k : Nat) ∧ Hid (xs.take k = ys.take k) ∧ Hid (Grows w wr)) (fun i _ => n - (intOf i).toNat)
    case atStart => exact ⟨0, Nat.zero_le _, rfl, Lib.hid rfl, Lib.hid (Grows.refl _)⟩
    case round =>
      obtain ⟨k, hk, rfl, HE, HG⟩ := hrel
      by_cases hlt : k < n
      · obtain ⟨ax, BX, mx, cx, rfl, _, hcellx, hsx⟩ := (HX.out.grow HG.out).get hlt
        obtain ⟨ay, BY, my, cy, rfl, _, hcelly, hsy⟩ := (HY.out.grow HG.out).get hlt
        have HC : Hid (∀ w', Grows wr w' → w'.cell? (ax.add k) = some (.slice BX mx cx) ∧ w'.cell? (ay.add k) = some (.slice BY my cy)) := Lib.hid fun w' hw => by
          obtain ⟨_, _, _, _, e1, _, _, _⟩ := (HX.out.grow HG.out).get hlt
          exact ⟨(hw.cell (by have := World.block_lt_of_cell? wr _ hcellx; exact this)).trans hcellx, (hw.cell (by have := World.block_lt_of_cell? wr _ hcelly; exact this)).trans hcelly⟩
        generalize hxk : xs.getD k [] = x at hsx
        generalize hyk : ys.getD k [] = y at hsy
        have HXY := Lib.hid (And.intro hxk hyk)
        clear hxk hyk
        have HSX := Lib.hid hsx
        have HSY := Lib.hid hsy
        have k0 : (0 : Int) ≤ (k : Int) := by omega
        have k1 : (k : Int) < (n : Int) := by omega
        have hd : decide ((k : Int) < (n : Int)) = true := decide_eq_true k1
        have kw : IntKind.i64.wrap ((k : Int) + 1) = (k : Int) + 1 := IntWalk.i64_in _ (by omega)
        clear hsx hsy hcellx hcelly
        go_wp2_with (fail)
        by_cases heq : x = y
        · have HQ := Lib.hid heq
          clear heq
          refine q_region mixed (by kernel_rfl) ?_
          refine q_op (.slice (some ax) n c) (by rfl) ?_ ?_
          · intro w' hC; clear hC; go_simp
          simp only [Act.put, List.setIfInBounds_toArray, List.set_cons_zero, List.set_cons_succ]
          refine q_op (.int .i64 (k : Int)) (by rfl) ?_ ?_
          · intro w' hC; clear hC; go_simp
          simp only [Act.put, List.setIfInBounds_toArray, List.set_cons_zero, List.set_cons_succ]
          refine q_op (.pointer (some (ax.add k))) (by rfl) ?_ ?_
          · intro w' hC; clear hC; go_simp
          simp only [Act.put, List.setIfInBounds_toArray, List.set_cons_zero, List.set_cons_succ]
          refine q_op (.slice BX mx cx) (by rfl) ?_ ?_
          · intro w' hC; obtain ⟨c1, c2⟩ := HC.out w' hC; clear hC; go_simp
          simp only [Act.put, List.setIfInBounds_toArray, List.set_cons_zero, List.set_cons_succ]
          refine q_op (.string ⟨x.toArray⟩) (by rfl) ?_ ?_
          · intro w' hC; have hs := run_string (HSX.out.grow hC); clear hC; go_simp
          simp only [Act.put, List.setIfInBounds_toArray, List.set_cons_zero, List.set_cons_succ]
          refine q_op (.slice (some ay) n d) (by rfl) ?_ ?_
          · intro w' hC; clear hC; go_simp
          simp only [Act.put, List.setIfInBounds_toArray, List.set_cons_zero, List.set_cons_succ]
          refine q_op (.int .i64 (k : Int)) (by rfl) ?_ ?_
          · intro w' hC; clear hC; go_simp
          simp only [Act.put, List.setIfInBounds_toArray, List.set_cons_zero, List.set_cons_succ]
          refine q_op (.pointer (some (ay.add k))) (by rfl) ?_ ?_
          · intro w' hC; clear hC; go_simp
          simp only [Act.put, List.setIfInBounds_toArray, List.set_cons_zero, List.set_cons_succ]
          refine q_op (.slice BY my cy) (by rfl) ?_ ?_
          · intro w' hC; obtain ⟨c1, c2⟩ := HC.out w' hC; clear hC; go_simp
          simp only [Act.put, List.setIfInBounds_toArray, List.set_cons_zero, List.set_cons_succ]
          refine q_op (.string ⟨y.toArray⟩) (by rfl) ?_ ?_
          · intro w' hC; have hs := run_string (HSY.out.grow hC); clear hC; go_simp
          simp only [Act.put, List.setIfInBounds_toArray, List.set_cons_zero, List.set_cons_succ]
          refine q_op (.bool false) (by rfl) ?_ ?_
          · intro w' hC; clear hC; (go_simp; exact HQ.out)
          simp only [Act.put, List.setIfInBounds_toArray, List.set_cons_zero, List.set_cons_succ]
          refine wpQuiet_nil ?_
          intro w1 hC
          have HC1 := Lib.hid (Grows.trans HG.out hC)
          clear hC HC
          go_wp2_with (fail)
          go_roundw
          case rel => exact ⟨k + 1, by omega, by go_num, Lib.hid (take_more HE.out (by omega) (by omega) (by rw [HXY.out.1, HXY.out.2, HQ.out])), HC1⟩
          case measure => simp [intOf]; omega
        · have HQ := Lib.hid heq
          clear heq
          refine q_region mixed (by kernel_rfl) ?_
          refine q_op (.slice (some ax) n c) (by rfl) ?_ ?_
          · intro w' hC; clear hC; go_simp
          simp only [Act.put, List.setIfInBounds_toArray, List.set_cons_zero, List.set_cons_succ]
          refine q_op (.int .i64 (k : Int)) (by rfl) ?_ ?_
          · intro w' hC; clear hC; go_simp
          simp only [Act.put, List.setIfInBounds_toArray, List.set_cons_zero, List.set_cons_succ]
          refine q_op (.pointer (some (ax.add k))) (by rfl) ?_ ?_
          · intro w' hC; clear hC; go_simp
          simp only [Act.put, List.setIfInBounds_toArray, List.set_cons_zero, List.set_cons_succ]
          refine q_op (.slice BX mx cx) (by rfl) ?_ ?_
          · intro w' hC; obtain ⟨c1, c2⟩ := HC.out w' hC; clear hC; go_simp
          simp only [Act.put, List.setIfInBounds_toArray, List.set_cons_zero, List.set_cons_succ]
          refine q_op (.string ⟨x.toArray⟩) (by rfl) ?_ ?_
          · intro w' hC; have hs := run_string (HSX.out.grow hC); clear hC; go_simp
          simp only [Act.put, List.setIfInBounds_toArray, List.set_cons_zero, List.set_cons_succ]
          refine q_op (.slice (some ay) n d) (by rfl) ?_ ?_
          · intro w' hC; clear hC; go_simp
          simp only [Act.put, List.setIfInBounds_toArray, List.set_cons_zero, List.set_cons_succ]
          refine q_op (.int .i64 (k : Int)) (by rfl) ?_ ?_
          · intro w' hC; clear hC; go_simp
          simp only [Act.put, List.setIfInBounds_toArray, List.set_cons_zero, List.set_cons_succ]
          refine q_op (.pointer (some (ay.add k))) (by rfl) ?_ ?_
          · intro w' hC; clear hC; go_simp
          simp only [Act.put, List.setIfInBounds_toArray, List.set_cons_zero, List.set_cons_succ]
          refine q_op (.slice BY my cy) (by rfl) ?_ ?_
          · intro w' hC; obtain ⟨c1, c2⟩ := HC.out w' hC; clear hC; go_simp
          simp only [Act.put, List.setIfInBounds_toArray, List.set_cons_zero, List.set_cons_succ]
          refine q_op (.string ⟨y.toArray⟩) (by rfl) ?_ ?_
          · intro w' hC; have hs := run_string (HSY.out.grow hC); clear hC; go_simp
          simp only [Act.put, List.setIfInBounds_toArray, List.set_cons_zero, List.set_cons_succ]
          refine q_op (.bool true) (by rfl) ?_ ?_
          · intro w' hC; clear hC; (go_simp; exact HQ.out)
          simp only [Act.put, List.setIfInBounds_toArray, List.set_cons_zero, List.set_cons_succ]
          refine wpQuiet_nil ?_
          intro w1 hC
          have HC1 := Lib.hid (Grows.trans HG.out hC)
          clear hC HC
          go_wp2_with (fail)
          go_ret
          have hne : decide (xs = ys) = false := decide_eq_false fun e => HQ.out (by rw [← HXY.out.1, ← HXY.out.2, e])
          exact ⟨by rw [hne]; rfl, HC1.out⟩
      · obtain rfl : k = n := by omega
        go_wp2_with (fail)
        go_ret
        have h := HE.out
        rw [List.take_of_length_le (by omega), List.take_of_length_le (by omega)] at h
        exact ⟨by rw [decide_eq_true h]; rfl, HG.out⟩
  · have hne : ((n : Int) != (m : Int)) = true := by simp; omega
    have hd : decide (xs = ys) = false := decide_eq_false fun e => hnm (by rw [← lx, ← ly, e])
    have HD := Lib.hid hd
    clear hnm hd
    go_enter Try.func37, Try.ntmps37
    go_wp2_with (fail)
    go_ret
    exact ⟨by rw [HD.out]; rfl, Grows.refl _⟩
end Go.Proofs.Ytlcpbkbojjpfaaa
