/-
  Append onto an empty literal, in a region that draws its order: new memory alone.
-/
import Derived.Test.YtfopiifchcaciaaSpJoin
import Derived.Test.YtfopiifchcaciaaWalkBits
namespace Go.Proofs.Ytfopiifchcaciaa
open Go.RowKit
set_option linter.unusedVariables false

section
variable {P : Program} {ops : Array Oper} {W : World} {Q : Act → World → Prop} {o : Oper} {rest : List Oper} {fs : List (Fact Grows)} {ks : Known} {a : Act}
/-- An operation that makes what a fact says. -/
theorem f_gen {F : Fact Grows} (hw : Region.wanted o (yielded ops a.tmps) = true) (h1 : ∀ w, Grows W w → ks.for (o.looksAt ops) w → ∃ x w', (execOp a.eval o).run P w = .ok (.value (F.val x)) w' ∧ Grows w w' ∧ F.R x w')
    (h2 : ∀ x, wpF P ops Grows W Q rest fs ((o.dst, F.R x) :: ks) (a.put o.dst (F.val x))) : wpF P ops Grows W Q (o :: rest) (F :: fs) ks a := by
  unfold wpF fStep
  rw [if_pos hw]
  refine ⟨fun w hW hk => ?_, fun x => h2 x⟩
  unfold gives
  obtain ⟨x, w', hr, hg, hR⟩ := h1 w hW hk
  rw [hr]
  exact ⟨hg, x, rfl, hR⟩
theorem exec_app {P : Program} {o : Oper} {a : Act} {w w' : World} {s x : Operand} {t u : TypeId} {v1 v2 v : Value} (ho : o.op = .call { callee := .builtin .append, args := #[s, x], argTypes := #[t, u] }) (hs : a.eval s = v1) (hx : a.eval x = v2)
    (hrun : (Builtin.append_ #[t, u] o.type #[v1, v2]).run P w = .ok v w') : (execOp a.eval o).run P w = .ok (.value v) w' := by
  unfold execOp
  simp only [ho, resolve, invoke, builtin, Sem.run_bind, Sem.run_pure, Result.andThen_ok, List.map_toArray, List.map_cons, List.map_nil, hs, hx, hrun]
end
theorem owned_raise {w : World} {b b' : Nat} {e : TypeId} {size : Nat} {v : Value} {n : Nat} {xs : List Value} (h : w.ownsRow b e size v n xs) (hb : ∀ g, v.ownBlock = some g → b' ≤ g) : w.ownsRow b' e size v n xs := by
  obtain ⟨h1, h2⟩ := h
  refine ⟨h1, ?_⟩
  rcases h2 with h2 | ⟨g, cap, cur, hv, _, hh, r⟩
  · exact .inl h2
  · subst hv
    exact .inr ⟨g, cap, cur, rfl, hb g (by simp [Value.ownBlock]), hh, r⟩
/-- A row of parts of the call's own. -/
def ptsFact (base n : Nat) (ps : List Pt) : Fact Grows := ⟨Option Addr × Nat, (none, 0), fun p => .slice p.1 n p.2, fun p w => w.ownsRow base 40 3 (.slice p.1 n p.2) n (ptC ps), fun _ _ _ h g => owned_grow h g⟩
theorem append_lit {w : World} {g ty base n c : Nat} {ps : List Pt} {ad : Addr} (hl : Whole w g 40 #[]) (hp : Pts w (some ad) n c ps) (hn : 0 < n ∧ n ≤ 1000000) (hb : base ≤ w.heap.size) :
    ∃ A' c' w', (Builtin.append_ #[33, 33] ty #[.slice (some ⟨g, 0, none⟩) 0 0, .slice (some ad) n c]).run Try.prog w = .ok (.slice A' n c') w' ∧ Grows w w' ∧ w'.ownsRow base 40 3 (.slice A' n c') n (ptC ps) := by
  obtain ⟨i0, hi, hz0, hz1, hz2⟩ := info_parts infoPart
  have hnews : ∀ j u, (ptC ps)[j]? = some u → w.cell? (ad.add j) = some u := fun j u hu => by
    obtain ⟨ad', he, _, hc⟩ := hp.row.spot j u hu
    injection he with he
    subst he
    exact hc
  have hlen : (ptC ps).length = n * 3 := by rw [ptC_length, hp.len, Nat.mul_comm]
  have hown : w.ownsRow 0 40 3 (.slice (some ⟨g, 0, none⟩) 0 0) 0 [] := ⟨rfl, .inr ⟨g, 0, #[], rfl, Nat.zero_le _, hl, Nat.le_refl _, Nat.zero_le _, rfl, rfl⟩⟩
  obtain ⟨v', w', hrun, h2, h3, _, h5⟩ := run_append_own_at (P := Try.prog) (w := w) 0 _ ty _ i0 _ 3 24 Try.underlying33 hi hz0 hz1 hz2 rfl (by decide) _ 0 [] hown ad n c (ptC ps) hlen hnews (ptC_one ps) (by unfold maxLen; omega) (by omega) (Nat.zero_le _)
  have hgr := run_append_grow (P := Try.prog) (w := w) 33 ty _ i0 _ Try.underlying33 hi hz0 ⟨g, 0, none⟩ 0 0 [] (by simp) (fun j v h => by simp at h) ad n c (ptC ps) (by rw [hz1]; exact hlen) hnews (by omega) (by omega) (growslice_fits (by omega) (by rw [hz2]; omega))
  rw [hgr] at hrun
  injection hrun with e1 e2
  subst e1 e2
  simp only [Nat.zero_add, List.nil_append] at h2 hgr ⊢
  refine ⟨_, _, _, hgr, Grows.trans (grows_drew w) (grows_alloc _ _), owned_raise h2 fun g' hg' => ?_⟩
  simp [Value.ownBlock] at hg'
  omega
/-- What stands behind the first one. -/
theorem Pts.behind {w : World} {ad : Addr} {n c : Nat} {p : Pt} {ps : List Pt} (h : Pts w (some ad) (n + 1) c (p :: ps)) (hc : ¬ c = 1) : Row w w.heap.size (some (ad.add 3)) (3 * n) (ptC ps) := by
  have h1 := h.row.behind (k := 3) (cap := 3 * c) (by omega) (by have := h.cap; omega)
  rw [if_neg (by omega), show 3 * (n + 1) - 3 = 3 * n by omega] at h1
  exact h1
/-- The last one of some, with another end. -/
theorem ptC_set (ini qs : List Pt) (a b c d : Int) (n : Nat) (hn : ini.length = n) : (ptC (ini ++ [(a, b, c)]) ++ ptC qs).set (n * 3 + 2) (.int .i64 d) = ptC (ini ++ [(a, b, d)] ++ qs) := by
  subst hn
  rw [ptC_append, ptC_append, ptC_append, List.append_assoc, List.set_append_right _ _ (by rw [ptC_length]; omega), ptC_length, show ini.length * 3 + 2 - 3 * ini.length = 2 by omega, List.append_assoc]
  rfl
end Go.Proofs.Ytfopiifchcaciaa
