/-
  What statement CutAll has: a cutter, what was written so far, and what came of it, each in memory of its own.
-/
import Derived.Test.YtlcpbkbojjpfaaaCutPart
namespace Go.Proofs.Ytlcpbkbojjpfaaa
open Go.RowKit
set_option linter.unusedVariables false

structure AllSt (w : World) (g B P Z : Nat) (v : Value) (L : List UInt8) (va : Value) (T : List UInt8) (vg : Value) (G : List UInt8) : Prop where
  cut : CutHas w g B P Z v L
  all : w.ownsRow B 5 1 va T.length (T.map byteV)
  got : w.ownsRow B 5 1 vg G.length (G.map byteV)
  ag : Apart va vg
  av : Apart va v
  gv : Apart vg v
section
variable {w w' : World} {g B P Z Z' : Nat} {v v' va vg u : Value} {L L' T G : List UInt8}
theorem AllSt.grow (h : AllSt w g B P Z v L va T vg G) (hg : Grows w w') : AllSt w' g B P Z v L va T vg G := ⟨h.cut.grow hg, owned_grow h.all hg, owned_grow h.got hg, h.ag, h.av, h.gv⟩
/-- A row stays where another is appended to. -/
theorem owned_beside {b n m : Nat} {xs ys : List Value} {x : Value} (h : w.ownsRow b 5 1 x n xs) (ho : w.ownsRow B 5 1 u m ys) (ha : Apart x u) (hg : w.grownBy w' u.ownBlock) : w'.ownsRow b 5 1 x n xs :=
  owned_same h fun k hk => hg.block k (owned_lt h hk).2 fun e => by
    rcases ha with ha | ha
    · rw [ha] at hk; cases hk
    · exact ha (hk.trans e)
theorem CutHas.aside {m : Nat} {ys : List Value} (h : CutHas w g B P Z v L) (ho : w.ownsRow B 5 1 u m ys) (ha : Apart u v) (hg : w.grownBy w' u.ownBlock) : CutHas w' g B P Z v L :=
  ⟨(hg.block _ h.cells.lt fun e => owned_type ho h.cells (by decide) e.symm).trans h.cells, owned_beside h.left ho ha.symm hg, h.short⟩
/-- More was written. -/
theorem AllSt.more {ys : List UInt8} {u : Value} (h : AllSt w g B P Z v L va T vg G) (ho : w'.ownsRow B 5 1 u (T ++ ys).length ((T ++ ys).map byteV)) (hg : w.grownBy w' va.ownBlock) (hu : u.ownBlock = va.ownBlock ∨ u.ownBlock = some w.heap.size) : AllSt w' g B P Z v L u (T ++ ys) vg G :=
  ⟨h.cut.aside h.all h.av hg, ho, owned_beside h.got h.all h.ag.symm hg, (Apart.moved h.ag.symm h.got hu).symm, (Apart.moved h.av.symm h.cut.left hu).symm, h.gv⟩
/-- More came. -/
theorem AllSt.came {ys : List UInt8} {u : Value} (h : AllSt w g B P Z v L va T vg G) (ho : w'.ownsRow B 5 1 u (G ++ ys).length ((G ++ ys).map byteV)) (hg : w.grownBy w' vg.ownBlock) (hu : u.ownBlock = vg.ownBlock ∨ u.ownBlock = some w.heap.size) : AllSt w' g B P Z v L va T u (G ++ ys) :=
  ⟨h.cut.aside h.got h.gv hg, owned_beside h.all h.got h.ag hg, ho, Apart.moved h.ag h.all hu, h.av, (Apart.moved h.gv.symm h.cut.left hu).symm⟩
/-- It was written to the cutter. -/
theorem AllSt.wrote (h : AllSt w g B P Z v L va T vg G) (hc : CutHas w' g B P Z' v' L') (hs : Spares (fun k => k = g ∨ v.ownBlock = some k) w w') (hv : ∀ k, v'.ownBlock = some k → v.ownBlock = some k ∨ w.heap.size ≤ k) : AllSt w' g B P Z' v' L' va T vg G := by
  have keep : ∀ {x : Value} {n : Nat} {xs : List Value}, w.ownsRow B 5 1 x n xs → Apart x v → w'.ownsRow B 5 1 x n xs ∧ Apart x v' := fun {x n xs} ho ha => by
    refine ⟨owned_same ho fun k hk => hs.same k (owned_lt ho hk).2 ?_, ?_⟩
    · rintro (e | e)
      · exact owned_type ho h.cut.cells (by decide) (by rw [hk, e])
      · rcases ha with ha | ha
        · rw [ha] at hk; cases hk
        · exact ha (hk.trans e.symm)
    · rcases ha with ha | ha
      · exact .inl ha
      · cases hx : x.ownBlock with
        | none => exact .inl hx
        | some k =>
          refine .inr fun e => ?_
          rw [hx] at e
          rcases hv k e.symm with e | e
          · exact ha (hx.trans e.symm)
          · have := (owned_lt ho hx).2
            omega
  exact ⟨hc, (keep h.all h.av).1, (keep h.got h.gv).1, h.ag, (keep h.all h.av).2, (keep h.got h.gv).2⟩
end
/-- '.. = append(.., x...)' of bytes, the row the call's own. -/
theorem list_app_own {ops : Array Oper} {rest : List Oper} {o : Oper} {a : Act} {w : World} {Q : Exit → Act → World → Prop} (hgd : o.guard = none) (s x : Operand)
    (ho : o.op = .call { callee := .builtin .append, args := #[s, x], argTypes := #[23, 23] })
    {base : Nat} {A0 : Option Addr} {n c0 : Nat} {xs : List UInt8} (hs : a.eval s = .slice A0 n c0) (hown : w.ownsRow base 5 1 (.slice A0 n c0) n (xs.map byteV))
    {A : Option Addr} {m c : Nat} {ys : List UInt8} (hx : a.eval x = .slice A m c) (hr : Sl w A m c ys) (k : Nat) (hk : n + m = k) (hk2 : k ≤ 140737488351232) (hbase : base ≤ w.heap.size)
    (h : ∀ A' c' w', w'.ownsRow base 5 1 (.slice A' k c') k ((xs ++ ys).map byteV) → w.grownBy w' (Value.slice A0 n c0).ownBlock → ((Value.slice A' k c').ownBlock = (Value.slice A0 n c0).ownBlock ∨ (Value.slice A' k c').ownBlock = some w.heap.size) → wpList Try.prog ops Q rest (a.put o.dst (.slice A' k c')) w') : wpList Try.prog ops Q (o :: rest) a w := by
  obtain ⟨i0, hi, hz0, hz1, hz2⟩ := info_parts infoU8
  exact list_append_row hgd s x _ ho Try.underlying23 hi hz0 hz1 hz2 rfl hs hown hx hr.bytes hr.bare (byteV_one ys) k hk ((xs ++ ys).map byteV) (List.map_append).symm (by unfold maxLen; omega) (by omega) hbase (fun A' c' w' h1 _ h3 h4 => h A' c' w' h1 h3 h4)
/-- A row of its own as long as what it has. -/
theorem own_len {w : World} {b : Nat} {e : TypeId} {n : Nat} {u : Value} {xs : List UInt8} (h : w.ownsRow b e 1 u n (xs.map byteV)) : xs.length = n := by have := h.1; simpa using this
end Go.Proofs.Ytlcpbkbojjpfaaa
