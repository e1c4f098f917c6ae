/-
  Places and numbers in memory.
-/
import Derived.Test.YtnnkioekjobbmaaFdMem
namespace Go.Proofs.Ytnnkioekjobbmaa
open Go.RowKit
set_option linter.unusedVariables false
set_option linter.unusedSimpArgs false

abbrev Fp := Int × Ht
instance : Inhabited Fp := ⟨(0, default)⟩
def plE (p : Fp) : List Value := [.int .i64 p.1, .int .i64 p.2.kind, .string ⟨p.2.key.toArray⟩, .int .i64 p.2.at_, .int .i64 p.2.size]
def plV (p : Fp) : Value := .agg #[.int .i64 p.1, .int .i64 p.2.kind, .string ⟨p.2.key.toArray⟩, .int .i64 p.2.at_, .int .i64 p.2.size]
theorem plL (x : Fp) : (plE x).length = 5 := rfl
theorem plE_one (x : Fp) : ∀ u ∈ plE x, u.oneCell' = true := by
  intro u hu
  simp only [plE, List.mem_cons, List.not_mem_nil, or_false] at hu
  rcases hu with rfl | rfl | rfl | rfl | rfl <;> first | rfl | simp [Value.oneCell']
theorem infoPl : (Try.prog.info? 35).map (fun i => (i.zero, i.size, i.bytes)) = some (some (.agg #[.int .i64 0, .int .i64 0, .string ⟨#[]⟩, .int .i64 0, .int .i64 0]), 5, 48) := by kernel_rfl
abbrev OwnPl (w : World) (base : Nat) (A : Option Addr) (n c : Nat) (l : List Fp) : Prop := w.ownsRow base 35 5 (.slice A n c) n (l.flatMap plE)
abbrev Pls (w : World) (A : Option Addr) (n c : Nat) (l : List Fp) : Prop := Rs w A n c plE 5 l
theorem flat_len5 (l : List Fp) : (l.flatMap plE).length = l.length * 5 := flat_length plL l
theorem OwnPl.len {w : World} {B : Nat} {A : Option Addr} {n c : Nat} {l : List Fp} (h : OwnPl w B A n c l) : l.length = n := by
  have h1 := h.1
  rw [flat_len5] at h1
  omega
theorem OwnPl.rs {w : World} {B : Nat} {A : Option Addr} {n c : Nat} {l : List Fp} (h : OwnPl w B A n c l) : Pls w A n c l := Rs.owned plL h.len h
theorem Pls.at {w : World} {A : Option Addr} {n c : Nat} {l : List Fp} (h : Pls w A n c l) {i : Nat} (hi : i < n) : ∃ ad x, A = some ad ∧ l[i]? = some x ∧ ad.block < w.heap.size ∧
    ∀ w', Grows w w' → w'.cell? (ad.add (i * 5)) = some (.int .i64 x.1) ∧ w'.cell? { block := (ad.add (i * 5)).block, off := (ad.add (i * 5)).off + 1 } = some (.int .i64 x.2.kind) ∧ w'.cell? { block := (ad.add (i * 5)).block, off := (ad.add (i * 5)).off + 2 } = some (.string ⟨x.2.key.toArray⟩) ∧
      w'.cell? { block := (ad.add (i * 5)).block, off := (ad.add (i * 5)).off + 3 } = some (.int .i64 x.2.at_) ∧ w'.cell? { block := (ad.add (i * 5)).block, off := (ad.add (i * 5)).off + 4 } = some (.int .i64 x.2.size) := by
  obtain ⟨ad, x, h1, h2, h3, h4⟩ := Rs.get plL (by omega) h hi
  refine ⟨ad, x, h1, h2, h3, fun w' hg => ?_⟩
  have key : ∀ j u, (plE x)[j]? = some u → w'.cell? ((ad.add (i * 5)).add j) = some u := fun j u hj => (hg.cell (by rw [add_block, add_block]; exact h3)).trans (h4 j u hj)
  have k0 := key 0 _ rfl
  have k1 := key 1 _ rfl
  have k2 := key 2 _ rfl
  have k3 := key 3 _ rfl
  have k4 := key 4 _ rfl
  rw [fadd0] at k0
  rw [Addr.add_succ'] at k1 k2 k3 k4
  exact ⟨k0, k1, k2, k3, k4⟩
/-- 'append(s, x)' of one place. -/
theorem app_pl {w : World} {ty B : Nat} {A : Option Addr} {n c : Nat} {l : List Fp} (ho : OwnPl w B A n c l) {g t0 : Nat} {cs : Array Value} (x : Fp) (hw : Whole w g t0 cs) (hcs : cs = (plE x).toArray) (hn : n < 1000000) (hB : B ≤ w.heap.size) :
    ∃ A' c' w', (Builtin.append_ #[26, 26] ty #[.slice A n c, .slice (some ⟨g, 0, none⟩) 1 1]).run Try.prog w = .ok (.slice A' (n + 1) c') w' ∧ OwnPl w' B A' (n + 1) c' (l ++ [x]) ∧ w.grownBy w' (Value.slice A n c).ownBlock ∧
      ((Value.slice A' (n + 1) c').ownBlock = (Value.slice A n c).ownBlock ∨ (Value.slice A' (n + 1) c').ownBlock = some w.heap.size) := by
  subst hcs
  obtain ⟨i0, hi0, hz0, hz1, hz2⟩ := info_of infoPl
  have hcell : ∀ (j : Nat) (u : Value), (plE x)[j]? = some u → w.cell? ((⟨g, 0, none⟩ : Addr).add j) = some u := fun j u hj => by
    rw [show (⟨g, 0, none⟩ : Addr).add j = ⟨g, j, none⟩ by unfold Addr.add; split <;> simp_all, hw.cell j]
    simpa using hj
  obtain ⟨v', w', hr, h2, h3, _, h5⟩ := run_append_own_at (P := Try.prog) (w := w) B 26 ty 35 i0 (.agg #[.int .i64 0, .int .i64 0, .string ⟨#[]⟩, .int .i64 0, .int .i64 0]) 5 48 Try.underlying26 hi0 hz0 hz1 hz2 rfl (by omega) (.slice A n c) n (l.flatMap plE) ho ⟨g, 0, none⟩ 1 1 (plE x) rfl hcell (plE_one x) (by unfold maxLen; omega) (by omega) hB
  obtain ⟨A', c', rfl⟩ := slice_ownP h2
  exact ⟨A', c', w', hr, by unfold OwnPl; rw [flat_snoc]; exact h2, h3, h5⟩
theorem ownPl_nil (w : World) (B : Nat) : OwnPl w B none 0 0 [] := ⟨rfl, .inl ⟨rfl, rfl⟩⟩
theorem exec_appF {P : Program} {o : Oper} {a : Act} {w w' : World} {s x : Operand} {t u : TypeId} {v1 v2 v : Value} (ho : o.op = .call { callee := .builtin .append, args := #[s, x], argTypes := #[t, u] }) (hs : a.eval s = v1) (hx : a.eval x = v2)
    (hrun : (Builtin.append_ #[t, u] o.type #[v1, v2]).run P w = .ok v w') : (execOp a.eval o).run P w = .ok (.value v) w' := by
  unfold execOp
  simp only [ho, resolve, invoke, builtin, Sem.run_bind, Sem.run_pure, Result.andThen_ok, List.map_toArray, List.map_cons, List.map_nil, hs, hx, hrun]
section
variable {P : Program} {ops : Array Oper} {Q : Act → World → Prop} {o : Oper} {rest : List Oper} {a : Act} {w w' : World} {v : Value}
theorem list_execF {Q : Exit → Act → World → Prop} (hg : o.guard = none) (h : (execOp a.eval o).run P w = .ok (.value v) w') (h2 : wpList P ops Q rest (a.put o.dst v) w') : wpList P ops Q (o :: rest) a w := by
  refine wpList_plain hg fun K hK' => ?_
  unfold Oper.wp
  rw [h]
  exact hK' _ _ h2
end
theorem ownP_grows {w5 w6 w7 : World} {B : Nat} {e : TypeId} {size : Nat} {v : Value} {n : Nat} {xs : List Value} (hg : Grows w5 w6) (hB : w5.heap.size ≤ B) (ho : w6.ownsRow B e size v n xs) (h : w6.grownBy w7 v.ownBlock) : Grows w5 w7 :=
  Below.grown (Below.mono hg (Nat.le_refl _)) h hg.size fun k hk => Nat.le_trans hB (owned_lt3 ho hk).1

/-! Numbers. -/
def inE (z : Int) : List Value := [.int .i64 z]
theorem inL (z : Int) : (inE z).length = 1 := rfl
theorem inE_one (z : Int) : ∀ u ∈ inE z, u.oneCell' = true := by
  intro u hu
  simp only [inE, List.mem_singleton] at hu
  subst hu
  rfl
theorem infoIn : (Try.prog.info? 3).map (fun i => (i.zero, i.size, i.bytes)) = some (some (.int .i64 0), 1, 8) := by kernel_rfl
abbrev Ins (w : World) (A : Option Addr) (n c : Nat) (l : List Int) : Prop := Rs w A n c inE 1 l
theorem Ins.at {w : World} {A : Option Addr} {n c : Nat} {l : List Int} (h : Ins w A n c l) {i : Nat} (hi : i < n) : ∃ ad x, A = some ad ∧ l[i]? = some x ∧ ad.block < w.heap.size ∧ ∀ w', Grows w w' → w'.cell? (ad.add i) = some (.int .i64 x) := by
  obtain ⟨ad, x, h1, h2, h3, h4⟩ := Rs.get inL (by omega) h hi
  refine ⟨ad, x, h1, h2, h3, fun w' hg => ?_⟩
  have k0 := h4 0 _ rfl
  rw [Nat.mul_one, fadd0] at k0
  exact (hg.cell (by rw [add_block]; exact h3)).trans k0
end Go.Proofs.Ytnnkioekjobbmaa
