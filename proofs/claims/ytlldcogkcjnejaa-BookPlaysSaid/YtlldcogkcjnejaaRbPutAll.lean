/-
  The document's answer to book: Put, all of it.
-/
import Derived.Test.YtlldcogkcjnejaaRbPut
import Derived.Test.YtlldcogkcjnejaaRbPutNt
import Derived.Test.YtlldcogkcjnejaaRbPutNf
namespace Go.Proofs.Ytlldcogkcjnejaa
open Go.RowKit Go.Shelf Go.Maps Go.Sort
set_option linter.unusedVariables false
set_option linter.unusedSimpArgs false

set_option maxRecDepth 100000 in
set_option maxHeartbeats 8000000 in
theorem rput_no {q c : Nat} {A : Option Addr} {l : List Us} {w : World} (h : RbAt w q A c l) {M : Nat} (hok : UOk M 999999 l) {k n : Int} (live : Bool) (hb : putB k n l = false) :
    Calls Try.prog 17 #[.pointer (some ⟨q, 0, none⟩), .int .i64 k, .int .i64 n, .bool live] w fun e w' => e = .returned (.bool false) ∧ RbTo w q A l w' := by
  have hn := hok.few
  have HOF := Lib.hid (rof_use h (by omega) hok.rise k)
  obtain ⟨u1, u2, u3⟩ := hok.use k
  obtain ⟨⟨s0, a0, v0⟩, hu⟩ : ∃ u, useOf k l = u := ⟨_, rfl⟩
  have hpb := of_decide_eq_false hb
  rw [hu] at HOF u1 u2 u3 hpb
  obtain ⟨hs, hhs⟩ : ∃ b, hasU k l = b := ⟨_, rfl⟩
  rw [hhs] at HOF
  dsimp only at u1 u2 u3 hpb
  have HBD := Lib.hid (And.intro u1 (And.intro u2 u3))
  have HPB := Lib.hid hpb
  have HX := Lib.hid h
  clear h hok hn hb hu hhs u1 u2 u3 hpb
  unfold usV at HOF
  dsimp only at HOF
  go_enter Try.func17, Try.ntmps17
  go_wp2_with (fail)
  refine HOF.out.mono ?_
  rintro e w1 ⟨rfl, hg1⟩
  obtain ⟨W1, hW1⟩ : ∃ W1, w1.alloc (.cells #[.int .i64 s0, .int .i64 a0, .int .i64 v0] 34) = W1 := ⟨_, rfl⟩
  have hg2 : Grows w1 W1 := hW1 ▸ grows_alloc _ _
  have hm1 : Whole W1 w1.heap.size 34 #[.int .i64 s0, .int .i64 a0, .int .i64 v0] := by rw [← hW1]; exact Whole.made _ _ _
  have c1 := hm1.cell 1
  simp only [List.getElem?_toArray, List.getElem?_cons_zero, List.getElem?_cons_succ] at c1
  have H1 := Lib.hid (Grows.trans hg1 hg2)
  clear hg1 hg2 hm1 HOF
  by_cases b1 : k < 0
  · go_wp2_with (first | rw [hW1] | fail)
    go_ret
    exact ⟨rfl, RbTo.keep HX.out H1.out⟩
  by_cases b2 : 99999999 < k
  · go_wp2_with (first | rw [hW1] | fail)
    go_ret
    exact ⟨rfl, RbTo.keep HX.out H1.out⟩
  by_cases b3 : n < 0
  · go_wp2_with (first | rw [hW1] | fail)
    go_ret
    exact ⟨rfl, RbTo.keep HX.out H1.out⟩
  by_cases b4 : 1099511627776 < n
  · go_wp2_with (first | rw [hW1] | fail)
    go_ret
    exact ⟨rfl, RbTo.keep HX.out H1.out⟩
  obtain ⟨a1, ha1⟩ : ∃ d, a0 + n = d := ⟨_, rfl⟩
  have hwr := wrapI (x := a1) (by have := HBD.out; omega) (by have := HBD.out; omega)
  obtain ⟨y1, y2⟩ : IntKind.i64.wrap (a0 + n) = a1 ∧ wrap64 (a0 + n) = a1 := by rw [ha1]; exact hwr
  have b5 : 1125899906842624 < a1 := by have := HPB.out; omega
  clear hwr ha1
  go_wp2_with (first | rw [hW1] | fail)
  go_ret
  exact ⟨rfl, RbTo.keep HX.out H1.out⟩
theorem rput_use {q c : Nat} {A : Option Addr} {l : List Us} {w : World} (h : RbAt w q A c l) {M : Nat} (hok : UOk M 999999 l) (k n : Int) (live : Bool) :
    Calls Try.prog 17 #[.pointer (some ⟨q, 0, none⟩), .int .i64 k, .int .i64 n, .bool live] w fun e w' => e = .returned (.bool (putB k n l)) ∧ RbTo w q A (putU k n live l) w' := by
  unfold putU
  cases hb : putB k n l with
  | false => rw [if_neg (by decide)]; exact rput_no h hok live hb
  | true =>
    rw [if_pos rfl]
    cases hh : hasU k l <;> cases live
    · exact rput_new_f h hok hb hh
    · exact rput_new_t h hok hb hh
    · exact rput_has_f h hok hb hh
    · exact rput_has_t h hok hb hh
end Go.Proofs.Ytlldcogkcjnejaa
