/-
  A region that appends to a row of its own while a literal of one place (five cells) is made at no fixed time: what is kept is every block of five cells, for an append in place never writes such.
-/
import Derived.Test.YtnnkioekjobbmaaFdPl
import Derived.Deep.Upon
import Derived.ArgAppend
namespace Go.Proofs.Ytnnkioekjobbmaa
open Go.RowKit
set_option linter.unusedVariables false
set_option linter.unusedSimpArgs false

structure Keep5 (B : Nat) (w w' : World) : Prop where
  sp : Spares (fun k => B ≤ k) w w'
  low : ∀ (k : Nat) (cs : Array Value) (t : TypeId), Whole w k t cs → cs.size = 5 → Whole w' k t cs
theorem Keep5.ofGrows {B : Nat} {w w' : World} (h : Grows w w') : Keep5 B w w' := ⟨Spares.grows h, fun k cs t hw _ => (h.block k hw.lt).trans hw⟩
theorem Keep5.trans {B : Nat} {a b c : World} (h : Keep5 B a b) (k : Keep5 B b c) : Keep5 B a c := ⟨h.sp.trans k.sp, fun q cs t hw h3 => k.low q cs t (h.low q cs t hw h3) h3⟩
theorem Keep5.refl (B : Nat) (w : World) : Keep5 B w w := Keep5.ofGrows (Grows.refl w)
theorem keep5_drew (B : Nat) (w : World) : Keep5 B w { w with drawn := w.drawn + 1 } := ⟨spares_drew _ w, fun _ _ _ h _ => h⟩
section
variable {B : Nat}
def vJob (B : Nat) (v : Value) : Job Grows (Keep5 B) := ⟨Unit, (), fun _ => v, fun _ _ => True, fun _ _ _ _ _ => trivial, false, false, fun _ _ => True, fun _ _ _ _ _ => trivial⟩
def cJob (B : Nat) (α : Type) (x0 : α) (val : α → Value) (C : α → World → Prop) (hC : ∀ x w w', C x w → Grows w w' → C x w') : Job Grows (Keep5 B) := ⟨α, x0, val, fun _ _ => True, fun _ _ _ _ _ => trivial, true, true, C, hC⟩
def mJob (B : Nat) (t : TypeId) (cs : Array Value) (h3 : cs.size = 5) : Job Grows (Keep5 B) :=
  ⟨Nat, 0, fun g => .slice (some ⟨g, 0, none⟩) 1 1, fun g w => Whole w g t cs, fun g _ _ h hE => hE.low g cs t h h3, false, false, fun _ _ => True, fun _ _ _ _ _ => trivial⟩
variable {P : Program} {ops : Array Oper} {W : World} {Q : Act → World → Prop} {o : Oper} {rest : List Oper} {js : List (Job Grows (Keep5 B))} {ks : Known} {C : World → Prop} {a : Act}
theorem ke_val (v : Value) (hw : Region.wanted o (yielded ops a.tmps) = true) (h1 : ∀ w, Keep5 B W w → (execOp a.eval o).run P w = .ok (.value v) w) (h2 : wpJ P ops W Q rest js ks C (a.put o.dst v)) :
    wpJ P ops W Q (o :: rest) (vJob B v :: js) ks C a := by
  unfold wpJ jStep
  rw [if_pos hw]
  refine ⟨fun w hW hk _ => ?_, fun x => wpJ_more _ _ ks _ _ _ (fun k hk => List.mem_cons_of_mem _ hk) h2⟩
  rw [h1 w hW]
  exact ⟨(), rfl, trivial, (fun h => by cases h), fun _ => Grows.refl w⟩
theorem ke_made (t : TypeId) (cs : Array Value) (h3 : cs.size = 5) (hw : Region.wanted o (yielded ops a.tmps) = true) (h1 : ∀ w, Keep5 B W w → (execOp a.eval o).run P w = .ok (.value (.slice (some ⟨w.heap.size, 0, none⟩) 1 1)) (w.alloc (.cells cs t)))
    (h2 : ∀ g, wpJ P ops W Q rest js ((o.dst, fun w => Whole w g t cs) :: ks) C (a.put o.dst (.slice (some ⟨g, 0, none⟩) 1 1))) :
    wpJ P ops W Q (o :: rest) (mJob B t cs h3 :: js) ks C a := by
  unfold wpJ jStep
  rw [if_pos hw]
  refine ⟨fun w hW hk _ => ?_, fun g => h2 g⟩
  rw [h1 w hW]
  exact ⟨w.heap.size, rfl, Whole.made _ _ _, (fun h => by cases h), fun _ => grows_alloc _ _⟩
theorem ke_cls {α : Type} {x0 : α} {val : α → Value} {C' : α → World → Prop} {hC' : ∀ x w w', C' x w → Grows w w' → C' x w'} (hw : Region.wanted o (yielded ops a.tmps) = true)
    (h1 : ∀ w, Keep5 B W w → C w → ks.for (o.looksAt ops) w → ∃ x w', (execOp a.eval o).run P w = .ok (.value (val x)) w' ∧ Keep5 B w w' ∧ C' x w') (h2 : ∀ x, wpJ P ops W Q rest js ks (C' x) (a.put o.dst (val x))) :
    wpJ P ops W Q (o :: rest) (cJob B α x0 val C' hC' :: js) ks C a := by
  unfold wpJ jStep
  rw [if_pos hw]
  refine ⟨fun w hW hk hC => ?_, fun x => wpJ_more _ _ ks _ _ _ (fun k hk => List.mem_cons_of_mem _ hk) (h2 x)⟩
  obtain ⟨x, w', hr, hs, hc⟩ := h1 w hW (hC rfl) hk
  rw [hr]
  exact ⟨x, rfl, trivial, fun _ => ⟨hs, hc⟩, fun h => by cases h⟩
theorem ke_end (h : ∀ w, Keep5 B W w → ks.all w → C w → Q a w) : wpJ (G := Grows) (E := Keep5 B) P ops W Q [] js ks C a := h
end
/-- The row that grows. -/
structure Chain (B : Nat) (l : List Fp) (n : Nat) (A : Option Addr) (c : Nat) (w : World) : Prop where
  own : w.ownsRow B 35 5 (.slice A n c) n (l.flatMap plE)
  bare : n = 0 → c = 0
  some : A ≠ none
theorem Chain.grow {B n c : Nat} {l : List Fp} {A : Option Addr} {w w' : World} (h : Chain B l n A c w) (hg : Grows w w') : Chain B l n A c w' := ⟨owned_grow h.own hg, h.bare, h.some⟩
theorem src_none (w : World) (A : Option Addr) (c : Nat) : Src Try.prog 5 26 (.slice A 0 c) 0 [] w := by
  rcases A with _ | a
  · exact Src.ofNil w Try.underlying26 c
  · exact Src.ofSlice w Try.underlying26 a 0 c [] rfl (fun j u h => by simp at h) (fun u h => by cases h)
set_option maxRecDepth 100000 in
theorem chain_append {w : World} {ty B n c : Nat} {A : Option Addr} {l1 : List Fp} (h : Chain B l1 n A c w) {l2 : List Fp} {Ax : Option Addr} {m c' : Nat} (hc : 0 < m → ∃ ad, Ax = some ad ∧ ∀ (j : Nat) (u : Value), (l2.flatMap plE)[j]? = some u → w.cell? (ad.add j) = some u)
    (hb : l2.length = m ∧ n + m ≤ 1000000) (hbase : B ≤ w.heap.size) {k : Nat} (hk : n + m = k) {l3 : List Fp} (h3 : l1 ++ l2 = l3) :
    ∃ A' c'' w', (Builtin.append_ #[26, 26] ty #[.slice A n c, .slice Ax m c']).run Try.prog w = .ok (.slice A' k c'') w' ∧ Chain B l3 k A' c'' w' ∧ Keep5 B w w' := by
  subst hk h3
  obtain ⟨i0, hi0, hz0, hz1, hz2⟩ := info_of infoPl
  have hl1 : (l1.flatMap plE).length = n * 5 := h.own.1
  have hcap : n ≤ c := by
    rcases h.own.2 with ⟨e, _⟩ | ⟨g, cap, cur, e, _, _, hnc, _⟩
    · injection e with e1 e2 e3; omega
    · injection e with e1 e2 e3; omega
  rcases Nat.eq_zero_or_pos m with hm | hm
  · subst hm
    have hnil : l2 = [] := List.eq_nil_of_length_eq_zero hb.1
    subst hnil
    refine ⟨A, c, w, run_append_nothing (P := Try.prog) w _ _ _ _ i0 Try.underlying26 hi0 A n c hcap _ (by rw [hz1]; exact src_none w Ax c'), ?_, Keep5.refl _ _⟩
    rw [List.append_nil]
    exact h
  obtain ⟨ad, rfl, hcell⟩ := hc hm
  have hl2 : (l2.flatMap plE).length = m * 5 := by rw [flat_len5, hb.1]
  by_cases hroom : n + m ≤ c
  · have hn0 : n ≠ 0 := fun e => by have := h.bare e; omega
    obtain ⟨v', w', hr, h2, h3, _, h5⟩ := run_append_own_at (P := Try.prog) (w := w) B 26 ty 35 i0 (.agg #[.int .i64 0, .int .i64 0, .string ⟨#[]⟩, .int .i64 0, .int .i64 0]) 5 48 Try.underlying26 hi0 hz0 hz1 hz2 rfl (by omega) (.slice A n c) n (l1.flatMap plE) h.own ad m c' (l2.flatMap plE) hl2 hcell (fun u hu => by obtain ⟨x, _, hx⟩ := List.mem_flatMap.1 hu; exact plE_one x u hx) (by unfold maxLen; omega) (by omega) hbase
    obtain ⟨A', c'', rfl⟩ := slice_ownP h2
    refine ⟨A', c'', w', hr, ⟨by rw [List.flatMap_append]; exact h2, fun e => by omega, fun e => ?_⟩, ⟨(Spares.refl _ _).grown h3 fun q hq => (owned_lt3 h.own hq).1, fun q cs t hw h3' => ?_⟩⟩
    · subst e
      rcases h2.2 with ⟨e, e2⟩ | ⟨g, cap, cur, e, _⟩
      · injection e with e1 e2 e3; omega
      · cases e
    · refine (h3.block q hw.lt fun e => ?_).trans hw
      rcases h.own.2 with ⟨e1, _⟩ | ⟨g, cap, cur, e1, _, hg, _, _, hcs, _⟩
      · rw [e1] at e; simp [Value.ownBlock] at e
      · injection e1 with e1 e2 e3
        subst e1 e3
        simp [Value.ownBlock] at e
        subst e
        unfold Whole at hw
        rw [hg] at hw
        injection hw with hw
        injection hw with hw1 hw2
        subst hw1
        omega
  · obtain ⟨b, rfl⟩ : ∃ b, A = some b := Option.ne_none_iff_exists'.1 h.some
    have holds : ∀ (j : Nat) (u : Value), (l1.flatMap plE)[j]? = some u → w.cell? (b.add j) = some u := fun j u hu => by
      obtain ⟨ad', e, _, e2⟩ := (Rs.owned plL (by rw [flat_len5] at hl1; omega) h.own).row.spot j u hu
      injection e with e
      subst e
      exact e2
    obtain ⟨v', w', hr, h2, h3⟩ := run_append_arg_grows (P := Try.prog) (w := w) 26 ty 35 i0 (.agg #[.int .i64 0, .int .i64 0, .string ⟨#[]⟩, .int .i64 0, .int .i64 0]) 5 48 Try.underlying26 hi0 hz0 hz1 hz2 rfl (by omega) b n c (l1.flatMap plE) hl1 holds ad m c' (l2.flatMap plE) hl2 hcell (by omega) (by unfold maxLen; omega) (by omega)
    obtain ⟨A', c'', rfl⟩ := slice_ownP h2
    refine ⟨A', c'', w', hr, ⟨by rw [List.flatMap_append]; exact owned_from h2 hbase, fun e => by omega, fun e => ?_⟩, Keep5.ofGrows ⟨h3.os, h3.tape, h3.output, h3.size, fun q hq => h3.block q hq (by simp)⟩⟩
    subst e
    rcases h2.2 with ⟨e, e2⟩ | ⟨g, cap, cur, e, _⟩
    · injection e with e1 e2 e3; omega
    · cases e
end Go.Proofs.Ytnnkioekjobbmaa
