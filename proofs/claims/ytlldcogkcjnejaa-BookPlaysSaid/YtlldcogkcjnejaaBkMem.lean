/-
  Uses in memory; a book in memory.
-/
import Derived.Test.YtlldcogkcjnejaaBkPlain
import Derived.Test.YtlldcogkcjnejaaUsG
import Derived.Test.YtlldcogkcjnejaaRange
import Derived.Maps.OwnSet
import Derived.Maps.RangeWalk
namespace Go.Proofs.Ytlldcogkcjnejaa
open Go.RowKit Go.Maps Go.Shelf
set_option linter.unusedVariables false
set_option linter.unusedSimpArgs false
theorem usL (x : Us) : (usE x).length = 3 := rfl
theorem usE_one (x : Us) : ∀ u ∈ usE x, u.oneCell' = true := by
  intro u hu
  simp only [usE, List.mem_cons, List.not_mem_nil, or_false] at hu
  rcases hu with rfl | rfl | rfl <;> first | rfl | simp [Value.oneCell']
theorem infoUs : (Try.prog.info? 34).map (fun i => (i.zero, i.size, i.bytes)) = some (some (.agg #[.int .i64 0, .int .i64 0, .int .i64 0]), 3, 24) := by kernel_rfl
abbrev Uss (w : World) (A : Option Addr) (n c : Nat) (l : List Us) : Prop := Rs w A n c usE 3 l
theorem Uss.at {w : World} {A : Option Addr} {n c : Nat} {l : List Us} (h : Uss w A n c l) {i : Nat} (hi : i < n) : ∃ ad x, A = some ad ∧ l[i]? = some x ∧ ad.block < w.heap.size ∧
    ∀ w', Grows w w' → w'.cell? (ad.add (i * 3)) = some (.int .i64 x.seg) ∧ w'.cell? { block := (ad.add (i * 3)).block, off := (ad.add (i * 3)).off + 1 } = some (.int .i64 x.all) ∧
      w'.cell? { block := (ad.add (i * 3)).block, off := (ad.add (i * 3)).off + 2 } = some (.int .i64 x.live) := by
  obtain ⟨ad, x, h1, h2, h3, h4⟩ := Rs.get usL (by omega) h hi
  refine ⟨ad, x, h1, h2, h3, fun w' hg => ?_⟩
  have key : ∀ j u, (usE x)[j]? = some u → w'.cell? ((ad.add (i * 3)).add j) = some u := fun j u hj => (hg.cell (by rw [add_block, add_block]; exact h3)).trans (h4 j u hj)
  have k0 := key 0 _ rfl
  have k1 := key 1 _ rfl
  have k2 := key 2 _ rfl
  rw [show (ad.add (i * 3)).add 0 = ad.add (i * 3) from by generalize ad.add (i * 3) = q; unfold Addr.add; simp] at k0
  rw [Addr.add_succ'] at k1 k2
  exact ⟨k0, k1, k2⟩
theorem us_at {w : World} {g ty : Nat} {x : Us} (hw : Whole w g ty #[.int .i64 x.seg, .int .i64 x.all, .int .i64 x.live]) : ∀ j u, (usE x)[j]? = some u → w.cell? ((⟨g, 0, none⟩ : Addr).add j) = some u := by
  intro j u hj
  rw [show (⟨g, 0, none⟩ : Addr).add j = ⟨g, j, none⟩ by unfold Addr.add; split <;> simp_all, hw.cell j]
  simpa [usE] using hj

/-! The map. -/
abbrev OwnsU (w : World) (b nn : Nat) (l : List Us) : Prop := w.ownsMap Try.prog 3 (usR (H := Unit)) b nn (encU l)
theorem own_sameU {w w' : World} {b nn : Nat} {l : List Us} (h : OwnsU w b nn l) (hb : w'.heap[b]? = w.heap[b]?) : OwnsU w' b nn l := by
  obtain ⟨es, clock, h1, h2⟩ := h
  exact ⟨es, clock, hb.trans h1, h2⟩
theorem keyIntU {k : Int} (h1 : -9223372036854775808 ≤ k) (h2 : k ≤ 9223372036854775807) : keyOf Try.prog 3 (.int .i64 k) = some (.int .i64 k) :=
  keyOf_int_mk Try.underlying3 (by show (decide ((-9223372036854775808 : Int) ≤ k) && decide (k ≤ (9223372036854775807 : Int))) = true; simp [h1, h2])
theorem at_memU {l : List Us} {x : Int} {c : Us} (hat : ∀ zd : DataW Unit, (encU l).atKey (.int .i64 x) zd = usD c) : c ∈ l ∧ c.seg = x := by
  have h1 := hat (usD c)
  rw [at_encU] at h1
  cases hf : ufind x l with
  | some y =>
    rw [hf] at h1
    have h2 : y = c := usD_inj h1
    subst h2
    unfold ufind at hf
    exact ⟨List.mem_of_find?_eq_some hf, by simpa using List.find?_some hf⟩
  | none =>
    exfalso
    have h2 := hat (.lit (.bool true))
    rw [at_encU, hf] at h2
    exact absurd h2 (by unfold usD; simp)
theorem zeroU (w : World) : (zeroValue 34).run Try.prog w = .ok (.agg #[.int .i64 0, .int .i64 0, .int .i64 0]) w := by kernel_rfl
theorem look_use {w : World} {b nn : Nat} {l : List Us} (h : OwnsU w b nn l) {k : Int} (hk : keyOf Try.prog 3 (.int .i64 k) = some (.int .i64 k)) :
    (Instr.lookup 50 (.map (some b)) (.int .i64 k) true).run Try.prog w = .ok (.tuple #[usV (useOf k l), .bool (hasU k l)]) w ∧
    (Instr.lookup 50 (.map (some b)) (.int .i64 k) false).run Try.prog w = .ok (usV (useOf k l)) w := by
  have hz : usR (H := Unit) (.agg #[.int .i64 0, .int .i64 0, .int .i64 0]) = some (usD ⟨0, 0, 0⟩, []) := usR_mk ⟨0, 0, 0⟩
  have key : ∀ v ps, usR (H := Unit) v = some ((encU l).atKey (.int .i64 k) (usD ⟨0, 0, 0⟩), ps) → v = usV (useOf k l) := by
    intro v ps hv
    obtain ⟨x, rfl, hx⟩ := usR_inv hv
    rw [at_encU] at hx
    have h1 := (Prod.mk.inj hx).1
    unfold useOf
    cases hf : ufind k l with
    | none => rw [hf] at h1; rw [← usD_inj h1]; rfl
    | some y => rw [hf] at h1; rw [← usD_inj h1]; rfl
  constructor
  · obtain ⟨v, ps, h1, h2⟩ := World.ownsMap.look_ok h (int_keyed Try.underlying3) Try.underlying50 (zeroU w) hz hk
    rw [h1, key v ps h2, has_encU]
  · obtain ⟨v, ps, h1, h2⟩ := World.ownsMap.lookup h (int_keyed Try.underlying3) Try.underlying50 (zeroU w) hz hk
    rw [h1, key v ps h2]
theorem del_encU (k : Int) (l : List Us) : (encU (H := Unit) l).del (.int .i64 k) = encU (udel k l) := by
  show DataW.map (List.filter _ _) = _
  rw [filter_encU]
  rfl
theorem results_use2 {fn : Func} {p q : Tmp} (h : fn.results = #[.cell p 34, .tmp q]) (tmps : Array Value) (w : World) (g : Nat) (t : TypeId) (u0 u1 u2 b : Value)
    (hp : tmps.getD p undef = .pointer (some ⟨g, 0, none⟩)) (hq : tmps.getD q undef = b) (hg : Whole w g t #[u0, u1, u2]) :
    (results fn tmps).run Try.prog w = .ok (.tuple #[.agg #[u0, u1, u2], b]) w := by
  have hp' : tmps[p]?.getD undef = .pointer (some ⟨g, 0, none⟩) := by simpa using hp
  have hq' : tmps[q]?.getD undef = b := by simpa using hq
  have hi : (Try.prog.info? 34).map (·.size) = some 3 := by kernel_rfl
  simp [results, h, hp', hq', asAddr, run_loadVar_row w g t 34 #[u0, u1, u2] (0, 0) _ hg Try.underlying34 rfl hi]
/-- A book: the block of its one cell, its map's block, and how often it was written (at most). -/
structure BkAt (w : World) (p b nn : Nat) (l : List Us) : Prop where
  box : Boxed w p 52 (.map (some b))
  map : OwnsU w b nn l
  apart : p ≠ b
  ok : UOk (nn * 1099511627776) nn l
theorem BkAt.ltp {w : World} {p b nn : Nat} {l : List Us} (h : BkAt w p b nn l) : p < w.heap.size := h.box.lt
theorem BkAt.ltb {w : World} {p b nn : Nat} {l : List Us} (h : BkAt w p b nn l) : b < w.heap.size := World.ownsMap.lt h.map
theorem BkAt.same {w w' : World} {p b nn : Nat} {l : List Us} (h : BkAt w p b nn l) (hp : w'.heap[p]? = w.heap[p]?) (hb : w'.heap[b]? = w.heap[b]?) : BkAt w' p b nn l :=
  ⟨hp.trans h.box, own_sameU h.map hb, h.apart, h.ok⟩
theorem BkAt.grow {w w' : World} {p b nn : Nat} {l : List Us} (h : BkAt w p b nn l) (hg : Grows w w') : BkAt w' p b nn l := h.same (hg.block _ h.ltp) (hg.block _ h.ltb)
theorem BkAt.off {w w' : World} {p b nn : Nat} {l : List Us} {own : Nat → Prop} (h : BkAt w p b nn l) (hs : Spares own w w') (hp : ¬ own p) (hb : ¬ own b) : BkAt w' p b nn l := h.same (hs.same _ h.ltp hp) (hs.same _ h.ltb hb)
theorem BkAt.more {w : World} {p b nn : Nat} {l : List Us} (h : BkAt w p b nn l) : BkAt w p b (nn + 1) l := ⟨h.box, h.map.mono (Nat.le_succ _), h.apart, h.ok.mono (by omega) (Nat.le_succ _)⟩
end Go.Proofs.Ytlldcogkcjnejaa
