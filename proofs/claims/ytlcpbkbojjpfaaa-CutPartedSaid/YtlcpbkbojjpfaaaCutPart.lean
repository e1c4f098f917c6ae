/-
  Two cutters side by side, and a list that is made of two lists of pieces.
-/
import Derived.Test.YtlcpbkbojjpfaaaCutHead
import Derived.Test.YtlcpbkbojjpfaaaJobSteps
namespace Go.Proofs.Ytlcpbkbojjpfaaa
open Go.RowKit
set_option linter.unusedVariables false

def ownP (g1 g2 N : Nat) (k : Nat) : Prop := k = g1 ∨ k = g2 ∨ N ≤ k
/-- Two cutters. -/
structure XY (g1 g2 B P Z1 Z2 : Nat) (v1 v2 : Value) (L1 L2 : List UInt8) (w : World) : Prop where
  x : CutHas w g1 B P Z1 v1 L1
  y : CutHas w g2 B P Z2 v2 L2
  ne : g1 ≠ g2
section
variable {g1 g2 B P Z1 Z2 : Nat} {v1 v2 : Value} {L1 L2 : List UInt8} {w w' : World}
theorem XY.grow (h : XY g1 g2 B P Z1 Z2 v1 v2 L1 L2 w) (hg : Grows w w') : XY g1 g2 B P Z1 Z2 v1 v2 L1 L2 w' := ⟨h.x.grow hg, h.y.grow hg, h.ne⟩
theorem CutHas.row {g Z : Nat} {v rv : Value} {L : List UInt8} {b n : Nat} {xs : List Value} (h : CutHas w g B P Z v L) (ho : w.ownsRow b 23 1 rv n xs) (hg : w.grownBy w' rv.ownBlock) : CutHas w' g B P Z v L :=
  h.keep fun k hk => by
    rcases hk with rfl | hk
    · exact hg.block _ h.cells.lt fun e => owned_type ho h.cells (by decide) e.symm
    · refine hg.block _ (owned_lt h.left hk).2 fun e => ?_
      rcases own_apartC ho h.left (by decide) with h0 | h0
      · rw [h0] at e; cases e
      · exact h0 (e.symm.trans hk.symm)
theorem XY.row {rv : Value} {b n : Nat} {xs : List Value} (h : XY g1 g2 B P Z1 Z2 v1 v2 L1 L2 w) (ho : w.ownsRow b 23 1 rv n xs) (hg : w.grownBy w' rv.ownBlock) : XY g1 g2 B P Z1 Z2 v1 v2 L1 L2 w' := ⟨h.x.row ho hg, h.y.row ho hg, h.ne⟩
/-- What is done to one cutter alone leaves the other. -/
theorem CutHas.besides {g h' Z Z' : Nat} {v v' : Value} {L L' : List UInt8} (h : CutHas w g B P Z v L) (hx : CutHas w h' B P Z' v' L') (hne : g ≠ h') (hs : Spares (fun k => k = h') w w') : CutHas w' g B P Z v L :=
  h.keep fun k hk => by
    rcases hk with rfl | hk
    · exact hs.same _ h.cells.lt hne
    · exact hs.same _ (owned_lt h.left hk).2 fun e => owned_type h.left hx.cells (by decide) (by rw [hk, e])
end

theorem CutHas.from {w : World} {g B B' P Z : Nat} {v : Value} {L : List UInt8} (h : CutHas w g B P Z v L) (hb : B' ≤ B) : CutHas w g B' P Z v L := ⟨h.cells, owned_from h.left hb, h.short⟩
theorem CutHas.slAny {w w' : World} {own : Nat → Prop} {g B P Z n d : Nat} {L : List UInt8} {X : Option Addr} (h : CutHas w g B P Z (.slice X n d) L) (ho : ∀ k, own k → (∃ cs, Whole w k 89 cs) ∨ w.heap.size ≤ k) (hs : Spares own w w') : Sl w' X n d L := by
  refine h.sl.kept hs.size fun hn ad e => ?_
  subst e
  have hb : (Value.slice (some ad) n d).ownBlock = some ad.block := by
    rcases h.left.2 with ⟨e1, _⟩ | ⟨g, cap, cur, e1, _⟩
    · cases e1
    · injection e1 with e1 _ _
      injection e1 with e1
      subst e1
      rfl
  have hlt := (owned_lt h.left hb).2
  refine hs.same _ hlt fun e => ?_
  rcases ho _ e with ⟨cs, e⟩ | e
  · exact owned_type h.left e (by decide) hb
  · omega
theorem CutHas.slT {w w' : World} {g1 g2 B P Z Z' n d : Nat} {v' : Value} {L L' : List UInt8} {X : Option Addr} (h : CutHas w g1 B P Z (.slice X n d) L) (h2 : CutHas w g2 B P Z' v' L') (hs : Spares (ownP g1 g2 w.heap.size) w w') : Sl w' X n d L :=
  h.slAny (fun k e => by
    rcases e with rfl | rfl | e
    · exact .inl ⟨_, h.cells⟩
    · exact .inl ⟨_, h2.cells⟩
    · exact .inr e) hs
theorem CutHas.slU {w w' : World} {g1 g2 B P Z Z' n d : Nat} {v' : Value} {L L' : List UInt8} {X : Option Addr} (h : CutHas w g2 B P Z (.slice X n d) L) (h2 : CutHas w g1 B P Z' v' L') (hs : Spares (ownP g1 g2 w.heap.size) w w') : Sl w' X n d L :=
  h.slAny (fun k e => by
    rcases e with rfl | rfl | e
    · exact .inl ⟨_, h2.cells⟩
    · exact .inl ⟨_, h.cells⟩
    · exact .inr e) hs
theorem Keeps.two {g1 g2 : Nat} {v : Value} {cs1 cs2 : Array Value} {w0 w w' : World} (h0 : Keeps v w0 w) (h1 : Whole w0 g1 89 cs1) (h2 : Whole w0 g2 89 cs2) (hs : Spares (ownP g1 g2 w.heap.size) w w') : Keeps v w0 w' :=
  h0.step (fun k e => by
    rcases e with rfl | rfl | e
    · exact .inl ⟨_, _, h1⟩
    · exact .inl ⟨_, _, h2⟩
    · exact .inr (.inr (Nat.le_trans h0.1 e))) hs
theorem pieces_few (P : Nat) (T : List UInt8) : (piecesB P T).length ≤ T.length := by rw [pieces_len]; exact Nat.div_le_self _ _
theorem run_append_rows {w : World} {ty base : Nat} {A0 : Option Addr} {n c0 : Nat} {xs : List Value} (hown : w.ownsRow base 23 1 (.slice A0 n c0) n xs)
    {A : Option Addr} {m c Bx : Nat} {hs : List (Option Addr × Nat × Nat)} (hr : Row w Bx A m (hs.map slV)) (hbare : A = none → c = 0) (hk2 : n + m ≤ 1000000000) (hbase : base ≤ w.heap.size) :
    ∃ A' c' w', (Builtin.append_ #[51, 51] ty #[.slice A0 n c0, .slice A m c]).run Try.prog w = .ok (.slice A' (n + m) c') w' ∧ w'.ownsRow base 23 1 (.slice A' (n + m) c') (n + m) (xs ++ hs.map slV) ∧ w.grownBy w' (Value.slice A0 n c0).ownBlock := by
  obtain ⟨i0, hi, hz0, hz1, hz2⟩ := info_parts infoRow
  obtain ⟨v', w', hrun, h2, h3, h4⟩ := run_append_row (P := Try.prog) (ty := ty) Try.underlying51 hi hz0 hz1 hz2 rfl hown hr hbare (by
    intro u hu
    obtain ⟨b, _, rfl⟩ := List.mem_map.1 hu
    rfl) (by unfold maxLen; omega) (by omega) hbase
  obtain ⟨A', c', rfl, _⟩ := slice_of_owned h2
  exact ⟨A', c', w', hrun, h2, h3⟩
theorem exec_append {P : Program} {o : Oper} {a : Act} {w w' : World} {s x : Operand} {t u : TypeId} {v1 v2 v : Value} (ho : o.op = .call { callee := .builtin .append, args := #[s, x], argTypes := #[t, u] }) (hs : a.eval s = v1) (hx : a.eval x = v2)
    (hrun : (Builtin.append_ #[t, u] o.type #[v1, v2]).run P w = .ok v w') : (execOp a.eval o).run P w = .ok (.value v) w' := by
  unfold execOp
  simp only [ho, resolve, invoke, builtin, Sem.run_bind, Sem.run_pure, Result.andThen_ok, List.map_toArray, List.map_cons, List.map_nil, hs, hx, hrun]
/-- What an append to the call's own writes. -/
theorem own_grown {g1 g2 N : Nat} {w w' : World} {b e size n : Nat} {rv : Value} {xs : List Value} (ho : w.ownsRow b e size rv n xs) (hb : N ≤ b) (hg : w.grownBy w' rv.ownBlock) : Spares (ownP g1 g2 N) w w' :=
  ⟨hg.os, hg.tape, hg.output, hg.size, fun k hk hn => hg.block k hk fun e => hn (.inr (.inr (Nat.le_trans hb (owned_lt ho e.symm).1)))⟩
/-- Two lists, one behind the other. -/
theorem lists_two {w : World} {b : Nat} {A A2 A3 : Option Addr} {n m2 m3 c c2 c3 : Nat} {hs2 hs3 : List (Option Addr × Nat × Nat)} {ls2 ls3 : List (List UInt8)} (h2 : ListsH w A2 m2 c2 hs2 ls2) (h3 : ListsH w A3 m3 c3 hs3 ls3)
    (ho : w.ownsRow b 23 1 (.slice A n c) n ([] ++ hs2.map slV ++ hs3.map slV)) : Lists w A n c (ls2 ++ ls3) := by
  have l2 : hs2.length = m2 := by have := h2.row.len; simpa using this
  have l3 : hs3.length = m3 := by have := h3.row.len; simpa using this
  have hn : n = m2 + m3 := by have := ho.1; simp at this; omega
  obtain ⟨A', c', e, hb⟩ := slice_of_owned ho
  injection e with e1 _ e3
  subst e1 e3
  refine ⟨by rw [List.length_append, h2.len, h3.len, hn], ?_, hb, hs2 ++ hs3, by have := Row.owned ho; rw [List.nil_append, ← List.map_append] at this; exact this, fun i x l hx hl => ?_⟩
  · rcases ho.2 with ⟨e1, e2⟩ | ⟨g, cap, cur, e1, _, _, e2, _⟩
    · omega
    · injection e1 with _ _ e1; omega
  · have hl2 := h2.len
    by_cases hi : i < m2
    · rw [List.getElem?_append_left (by omega)] at hx hl
      exact h2.rows i x l hx hl
    · rw [List.getElem?_append_right (by omega)] at hx hl
      rw [l2] at hx
      rw [hl2] at hl
      exact h3.rows _ x l hx hl
theorem same_true {A B : Option Addr} {n c m d : Nat} {xs ys : List (List UInt8)} {w : World} (hx : Lists w A n c xs) (hy : Lists w B m d ys) (he : xs = ys) (hn : n ≤ 140737488351232) (hm : m ≤ 140737488351232) :
    Calls Try.prog 37 #[.slice A n c, .slice B m d] w fun e w' => e = .returned (.bool true) ∧ Grows w w' := by
  have := same_lists A n c xs B m d ys w hx hy hn hm
  rw [decide_eq_true he] at this
  exact this
end Go.Proofs.Ytlcpbkbojjpfaaa
