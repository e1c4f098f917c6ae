/-
  The document's answer to book: set, Kill.
-/
import Derived.Test.YtlldcogkcjnejaaRbOf
import Derived.Test.YtlldcogkcjnejaaBkMore
namespace Go.Proofs.Ytlldcogkcjnejaa
open Go.RowKit Go.Shelf Go.Maps Go.Sort
set_option linter.unusedVariables false
set_option linter.unusedSimpArgs false

/-- What a call leaves that may write to the answer's book. -/
def RbTo (w : World) (q : Nat) (A : Option Addr) (l' : List Us) (w' : World) : Prop := ∃ A' c', RbAt w' q A' c' l' ∧ Spares (fun k => k = q) w w' ∧ (A' = A ∨ ∀ ad, A' = some ad → w.heap.size ≤ ad.block)
theorem RbTo.keep {w w' : World} {q c : Nat} {A : Option Addr} {l : List Us} (h : RbAt w q A c l) (hg : Grows w w') : RbTo w q A l w' := ⟨A, c, h.grow hg, Spares.grows hg, .inl rfl⟩
theorem RbTo.trans {w w1 w' : World} {q : Nat} {A : Option Addr} {l' : List Us} (hg : Grows w w1) (h : RbTo w1 q A l' w') : RbTo w q A l' w' := by
  obtain ⟨A', c', h1, h2, h3⟩ := h
  exact ⟨A', c', h1, (Spares.grows hg).trans h2, h3.imp id fun h ad e => Nat.le_trans hg.size (h ad e)⟩
theorem add_zero' (g t : Nat) : (⟨g, 0, none⟩ : Addr).add t = ⟨g, t, none⟩ := by unfold Addr.add; split <;> simp_all
set_option maxRecDepth 100000 in
set_option maxHeartbeats 4000000 in
theorem rset_use {q c : Nat} {A : Option Addr} {l : List Us} {w : World} (h : RbAt w q A c l) (hn : l.length ≤ 1000000) {j : Nat} (hj : j < l.length) (x : Us) :
    Calls Try.prog 29 #[.pointer (some ⟨q, 0, none⟩), .int .i64 (j : Int), usV x] w fun e w' => e = .returned (.tuple #[]) ∧ RbTo w q A (l.set j x) w' := by
  obtain ⟨n, hl⟩ : ∃ n, l.length = n := ⟨_, rfl⟩
  have hb := h.box
  have hrow := h.row
  rw [hl] at hb hrow hn hj
  obtain ⟨x0, x1, x2⟩ := x
  show Calls _ _ #[_, _, .agg #[.int .i64 x0, .int .i64 x1, .int .i64 x2]] _ _
  obtain ⟨Wu, hWu⟩ : ∃ W, w.alloc (.cells #[.int .i64 x0, .int .i64 x1, .int .i64 x2] 34) = W := ⟨_, rfl⟩
  have hgu : Grows w Wu := hWu ▸ grows_alloc _ _
  have hmu : Whole Wu w.heap.size 34 #[.int .i64 x0, .int .i64 x1, .int .i64 x2] := by rw [← hWu]; exact Whole.made _ _ _
  obtain ⟨W0, hW0⟩ : ∃ W, Wu.alloc (.cells #[] 34) = W := ⟨_, rfl⟩
  have hg0 : Grows Wu W0 := hW0 ▸ grows_alloc _ _
  have o0 : W0.ownsRow Wu.heap.size 34 3 (.slice (some ⟨Wu.heap.size, 0, none⟩) 0 0) 0 [] := by rw [← hW0]; exact World.ownsRow_lit Wu #[] 0 (Nat.le_refl _) (Nat.zero_le _) rfl
  have hgw := Grows.trans hgu hg0
  have hbw : Boxed W0 q 54 (.slice A n c) := (hgw.block _ hb.lt).trans hb
  have d0 := hbw.cell
  have HX := Lib.hid (And.intro hgw (And.intro o0 (And.intro (hrow.grow hgw) (And.intro hbw (And.intro (hg0.whole hmu) (And.intro hl (And.intro hgu hj)))))))
  obtain ⟨i0, hi0, hz0, hz1, hz2⟩ := info_of infoUs
  have HI := Lib.hid (And.intro hi0 (And.intro hz0 (And.intro hz1 hz2)))
  have hql := hb.lt
  have HSZ := Lib.hid (show Wu.heap.size = w.heap.size + 1 by rw [← hWu, World.size_alloc])
  clear h hb hrow hg0 o0 hbw hi0 hz0 hz1 hz2 hgu hmu hgw hl
  go_enter Try.func29, Try.ntmps29
  have k0 : (0 : Int) ≤ (j : Int) := by omega
  have k1 : (j : Int) < (n : Int) := by omega
  go_wp2_with (first
    | rw [hWu]
    | rw [hW0]
    | rw [hW6]
    | (at_builtin
       refine list_append_at rfl (.tmp 7) (.tmp 11) 40 rfl Wu.heap.size 34 i0 (.agg #[.int .i64 0, .int .i64 0, .int .i64 0]) 3 24 Try.underlying40 HI.out.1 HI.out.2.1 HI.out.2.2.1 HI.out.2.2.2 rfl (by omega)
         rfl HX.out.2.1 (A := A) (m := n) (c := c) rfl HX.out.2.2.1.row HX.out.2.2.1.bare (fun u hu => by obtain ⟨x, _, hx⟩ := List.mem_flatMap.1 hu; exact usE_one x u hx) n (by omega) (by unfold maxLen; omega) (by omega) (by have := HX.out.1.size; have := HX.out.2.2.2.2.2.2.1.size; have h5 := HX.out.2.1.lt _ rfl; omega) ?_
       intro A5 c5 w5 ho5 hg5 hd5
       have ho5 : w5.ownsRow Wu.heap.size 34 3 (.slice A5 n c5) n (l.flatMap usE) := by simpa using ho5
       obtain ⟨g5, cap5, hv5, hb5, hlt5⟩ := ho5.form (by omega)
       injection hv5 with hA5 _ hc5
       subst hA5 hc5
       have hg6 : W0.grownBy w5 (Value.slice (some ⟨Wu.heap.size, 0, none⟩) 0 0).ownBlock := hg5
       have hs5 : Spares (fun k => k = Wu.heap.size) W0 w5 := (Spares.refl _ W0).grown hg6 fun k hk => by
         have h1 : some Wu.heap.size = some k := hk
         injection h1 with h1
         exact h1.symm
       have hm5 : Whole w5 w.heap.size 34 #[.int .i64 x0, .int .i64 x1, .int .i64 x2] := (hs5.same _ HX.out.2.2.2.2.1.lt (by have := HSZ.out; omega)).trans HX.out.2.2.2.2.1
       have e0 := hm5.cell 0
       have e1 := hm5.cell 1
       have e2 := hm5.cell 2
       simp only [List.getElem?_toArray, List.getElem?_cons_zero, List.getElem?_cons_succ] at e0 e1 e2
       have hst := cells3 ho5 (i := j) (x := l[j]'(by have := HX.out.2.2.2.2.2.1; omega)) (List.getElem?_eq_getElem _)
       obtain ⟨r0, r1, r2⟩ := hst
       have f0 := ho5.frozenAt (j * 3)
       have f1 := ho5.frozenAt (j * 3 + 1)
       have f2 := ho5.frozenAt (j * 3 + 2)
       have hbx5 : Boxed w5 q 54 (.slice A n c) := (hs5.same _ HX.out.2.2.2.1.lt (by have := HX.out.2.2.2.2.2.2.1.size; omega)).trans HX.out.2.2.2.1
       obtain ⟨W6, hW6⟩ : ∃ W, ((w5.setCell ⟨g5, j * 3, none⟩ (.int .i64 x0)).setCell ⟨g5, j * 3 + 1, none⟩ (.int .i64 x1)).setCell ⟨g5, j * 3 + 2, none⟩ (.int .i64 x2) = W := ⟨_, rfl⟩
       have hp6 : put3 w5 g5 (j * 3) ⟨x0, x1, x2⟩ = W6 := hW6
       have ho6 : W6.ownsRow Wu.heap.size 34 3 (.slice (some ⟨g5, 0, none⟩) n c5) n ((l.set j ⟨x0, x1, x2⟩).flatMap usE) := by rw [← hp6]; exact put3_own ho5 _
       have hs6 : Spares (fun k => k = g5) w5 W6 := by rw [← hp6]; exact put3_spares _ _ _ _
       have hbx6 : Boxed W6 q 54 (.slice A n c) := (hs6.same _ hbx5.lt (by have := HSZ.out; omega)).trans hbx5
       have d6 := hbx6.cell
       have fz : W6.frozen? ⟨q, 0, none⟩ = false := Whole.free (show Whole W6 q 54 #[_] from hbx6) 0
       have H5 := Lib.hid (And.intro ho6 (And.intro hs5 (And.intro hs6 (And.intro hbx6 hb5))))
       clear ho5 hg5 hg6 hs5 hm5 hbx5 hb5 hlt5 hd5 hp6 ho6 hs6 hbx6)
    | fail)
  go_end0
  obtain ⟨ho6, hs5, hs6, hbx6, hb5⟩ := H5.out
  have hgq : g5 ≠ q := by have := HSZ.out; omega
  have hll : (l.set j (⟨x0, x1, x2⟩ : Us)).length = n := by rw [List.length_set]; exact HX.out.2.2.2.2.2.1
  have hsp0 : Spares (fun k => w.heap.size ≤ k) w W6 := ((Spares.grows HX.out.1).trans (hs5.wider fun k _ e => by have := HSZ.out; omega)).trans (hs6.wider fun k _ e => by have := HSZ.out; omega)
  have hsp : Spares (fun k => k = q) w (W6.setCell ⟨q, 0, none⟩ (.slice (some ⟨g5, 0, none⟩) n c5)) := by
    have h1 : Grows w W6 := hsp0.below (Nat.le_refl _) fun k hk e => by omega
    exact Spares.setCell (own := fun k => k = q) (p := ⟨q, 0, none⟩) (Spares.grows h1) rfl _
  have hrow := Rs.owned usL hll ho6
  refine ⟨rfl, some ⟨g5, 0, none⟩, c5, ⟨?_, ?_, fun ad e => by injection e with e; rw [← e]; exact hgq⟩, hsp, .inr fun ad e => by injection e with e; rw [← e]; have := HSZ.out; dsimp only; omega⟩
  · rw [hll]
    exact Whole.put (show Whole W6 q 54 #[_] from hbx6) 0 _
  · rw [hll]
    have ho7 : (W6.setCell ⟨q, 0, none⟩ (.slice (some ⟨g5, 0, none⟩) n c5)).ownsRow Wu.heap.size 34 3 (.slice (some ⟨g5, 0, none⟩) n c5) n ((l.set j ⟨x0, x1, x2⟩).flatMap usE) := owned_same3 ho6 fun k hk => Below.heap_setCell _ _ _ _ fun e => by
      have h1 : some g5 = some k := hk
      injection h1 with h1
      exact hgq (h1.trans e)
    exact Rs.owned usL hll ho7
end Go.Proofs.Ytlldcogkcjnejaa
