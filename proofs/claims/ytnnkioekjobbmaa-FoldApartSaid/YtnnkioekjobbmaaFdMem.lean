/-
  Hints in memory; the heap of lists in memory.
-/
import Derived.Test.YtnnkioekjobbmaaFdEl
import Derived.Test.YtnnkioekjobbmaaRsG
import Derived.Test.YtnnkioekjobbmaaRange
import Derived.Test.YtnnkioekjobbmaaJobSteps
import Derived.Lib.Hide
import Derived.Laws.Cover1
namespace Go.Proofs.Ytnnkioekjobbmaa
open Go.RowKit
set_option linter.unusedVariables false
set_option linter.unusedSimpArgs false

theorem fless : ∀ x y : List UInt8, Op.bytesLess x y = bytesBefore x y
  | [], [] => by simp [Op.bytesLess, bytesBefore]
  | [], _ :: _ => by simp [Op.bytesLess, bytesBefore]
  | _ :: _, [] => by simp [Op.bytesLess, bytesBefore]
  | x :: r, y :: s => by
    have ih := fless r s
    simp [Op.bytesLess, bytesBefore, ih]
theorem fleq (x y : List UInt8) : (Op.bytesLess x y || x == y) = !bytesBefore y x := by
  rw [fless]
  by_cases e : x = y
  · subst e; rw [fbef_irrefl]; simp
  · have h1 : (x == y) = false := by simpa using e
    rw [h1, Bool.or_false]
    rcases h : bytesBefore x y with _ | _
    · rw [fbef_total h e]; rfl
    · rw [fbef_asymm h]; rfl
theorem fkey_eq (a b : List UInt8) : ((⟨a.toArray⟩ : ByteArray) == ⟨b.toArray⟩) = (a == b) := by
  have h1 : ((⟨a.toArray⟩ : ByteArray) == ⟨b.toArray⟩) = (a.toArray == b.toArray) := rfl
  rw [h1]
  simp

/-! Hints. -/
def htE (h : Ht) : List Value := [.int .i64 h.kind, .string ⟨h.key.toArray⟩, .int .i64 h.at_, .int .i64 h.size]
def htV (h : Ht) : Value := .agg #[.int .i64 h.kind, .string ⟨h.key.toArray⟩, .int .i64 h.at_, .int .i64 h.size]
theorem htL (h : Ht) : (htE h).length = 4 := rfl
theorem htE_one (h : Ht) : ∀ u ∈ htE h, u.oneCell' = true := by
  intro u hu
  simp only [htE, List.mem_cons, List.not_mem_nil, or_false] at hu
  rcases hu with rfl | rfl | rfl | rfl <;> first | rfl | simp [Value.oneCell']
theorem infoHt : (Try.prog.info? 33).map (fun i => (i.zero, i.size, i.bytes)) = some (some (.agg #[.int .i64 0, .string ⟨#[]⟩, .int .i64 0, .int .i64 0]), 4, 40) := by kernel_rfl
abbrev Hts (w : World) (A : Option Addr) (n c : Nat) (l : List Ht) : Prop := Rs w A n c htE 4 l
theorem Hts.at {w : World} {A : Option Addr} {n c : Nat} {l : List Ht} (h : Hts w A n c l) {i : Nat} (hi : i < n) : ∃ ad x, A = some ad ∧ l[i]? = some x ∧ ad.block < w.heap.size ∧
    ∀ w', Grows w w' → w'.cell? (ad.add (i * 4)) = some (.int .i64 x.kind) ∧ w'.cell? { block := (ad.add (i * 4)).block, off := (ad.add (i * 4)).off + 1 } = some (.string ⟨x.key.toArray⟩) ∧
      w'.cell? { block := (ad.add (i * 4)).block, off := (ad.add (i * 4)).off + 2 } = some (.int .i64 x.at_) ∧ w'.cell? { block := (ad.add (i * 4)).block, off := (ad.add (i * 4)).off + 3 } = some (.int .i64 x.size) := by
  obtain ⟨ad, x, h1, h2, h3, h4⟩ := Rs.get htL (by omega) h hi
  refine ⟨ad, x, h1, h2, h3, fun w' hg => ?_⟩
  have key : ∀ j u, (htE x)[j]? = some u → w'.cell? ((ad.add (i * 4)).add j) = some u := fun j u hj => (hg.cell (by rw [add_block, add_block]; exact h3)).trans (h4 j u hj)
  have k0 := key 0 _ rfl
  have k1 := key 1 _ rfl
  have k2 := key 2 _ rfl
  have k3 := key 3 _ rfl
  rw [show (ad.add (i * 4)).add 0 = ad.add (i * 4) from by generalize ad.add (i * 4) = q; unfold Addr.add; simp] at k0
  rw [Addr.add_succ'] at k1 k2 k3
  exact ⟨k0, k1, k2, k3⟩
theorem wrapI {x : Int} (h1 : -9223372036854775808 ≤ x) (h2 : x ≤ 9223372036854775807) : IntKind.i64.wrap x = x ∧ wrap64 x = x := by
  rw [IntWalk.i64_in _ (by omega), IntWalk.wrap64_in _ (by omega)]
  exact ⟨rfl, rfl⟩
theorem fadd0 (ad : Addr) : ad.add 0 = ad := by unfold Addr.add; simp
/-- The first one. -/
theorem Hts.top {w : World} {ad : Addr} {n c : Nat} {x : Ht} {l : List Ht} (h : Hts w (some ad) n c (x :: l)) : 0 < n ∧ ad.block < w.heap.size ∧
    ∀ w', Grows w w' → w'.cell? ad = some (.int .i64 x.kind) ∧ w'.cell? { block := ad.block, off := ad.off + 1 } = some (.string ⟨x.key.toArray⟩) ∧
      w'.cell? { block := ad.block, off := ad.off + 2 } = some (.int .i64 x.at_) ∧ w'.cell? { block := ad.block, off := ad.off + 3 } = some (.int .i64 x.size) := by
  have hn : 0 < n := by have := h.len; simp at this; omega
  obtain ⟨ad', y, e1, e2, h3, h4⟩ := h.at hn
  injection e1 with e1
  subst e1
  simp at e2
  subst e2
  rw [Nat.zero_mul, fadd0] at h4
  exact ⟨hn, h3, h4⟩
/-- What is behind the first one. -/
theorem Hts.behind {w : World} {ad : Addr} {n c : Nat} {x : Ht} {l : List Ht} (h : Hts w (some ad) n c (x :: l)) (h0 : 0 < n - 1) : Hts w (some (ad.add 4)) (n - 1) (c - 1) l := by
  have hl := h.len
  have hc := h.cap
  simp at hl
  refine ⟨by omega, by omega, fun e => (by cases e), ?_⟩
  have h1 := h.row
  have hr := h1.behind (k := 4) (cap := 4 * c) (by omega) (by omega)
  rw [if_neg (by omega)] at hr
  have e2 : ((x :: l).flatMap htE).drop 4 = l.flatMap htE := by
    rw [List.flatMap_cons]
    exact List.drop_left' (htL x)
  rw [e2] at hr
  rw [show 4 * (n - 1) = 4 * n - 4 by omega]
  exact hr

/-! The heap. -/
def elV (x : El) : Value := .pointer (some ⟨x.blk, 0, none⟩)
def elE (x : El) : List Value := [elV x]
theorem elL (x : El) : (elE x).length = 1 := rfl
theorem elE_one (x : El) : ∀ u ∈ elE x, u.oneCell' = true := by
  intro u hu
  simp only [elE, List.mem_singleton] at hu
  subst hu
  simp [elV, Value.oneCell']
theorem infoEl : (Try.prog.info? 51).map (fun i => (i.zero, i.size, i.bytes)) = some (some (.pointer none), 1, 8) := by kernel_rfl
/-- An element: its block, and what it has left, of the world W0 that there was before. -/
structure ElIn (W0 w : World) (x : El) : Prop where
  blk : Whole w x.blk 53 #[.int .i64 (x.no : Int), .slice (some x.ad) x.n x.c]
  row : Hts W0 (some x.ad) x.n x.c x.hs
  low : W0.heap.size ≤ x.blk
  few : x.n ≤ 1000000 ∧ x.no ≤ 1000000
structure Hp (W0 w : World) (h : Nat) (l : List El) (A : Option Addr) (c : Nat) : Prop where
  box : Boxed w h 49 (.slice A l.length c)
  own : w.ownsRow W0.heap.size 51 1 (.slice A l.length c) l.length (l.flatMap elE)
  apart : (Value.slice A l.length c).ownBlock ≠ some h
  els : ∀ x ∈ l, ElIn W0 w x
  far : ∀ x ∈ l, x.blk ≠ h ∧ (Value.slice A l.length c).ownBlock ≠ some x.blk
  good : GoodE l
  few : l.length ≤ 1000000
  old : Grows W0 w
theorem ElIn.same {W0 w w' : World} {x : El} (h : ElIn W0 w x) (hb : w'.heap[x.blk]? = w.heap[x.blk]?) : ElIn W0 w' x := ⟨hb.trans h.blk, h.row, h.low, h.few⟩
theorem Hp.grow {W0 w w' : World} {h : Nat} {l : List El} {A : Option Addr} {c : Nat} (hp : Hp W0 w h l A c) (hg : Grows w w') : Hp W0 w' h l A c :=
  ⟨(hg.block _ hp.box.lt).trans hp.box, owned_grow hp.own hg, hp.apart, fun x hx => (hp.els x hx).same (hg.block _ (hp.els x hx).blk.lt), hp.far, hp.good, hp.few, hp.old.trans hg⟩
def HpK (W0 w : World) (h : Nat) (l : List El) (K : Nat → Prop) : Prop := ∃ A c, Hp W0 w h l A c ∧ K h ∧ (∀ k, (Value.slice A l.length c).ownBlock = some k → K k) ∧ ∀ x ∈ l, K x.blk
theorem HpK.grow {W0 w w' : World} {h : Nat} {l : List El} {K : Nat → Prop} (hk : HpK W0 w h l K) (hg : Grows w w') : HpK W0 w' h l K := by
  obtain ⟨A, c, hp, r⟩ := hk
  exact ⟨A, c, hp.grow hg, r⟩
theorem HpK.off {W0 w w' : World} {h : Nat} {l : List El} {K own : Nat → Prop} (hk : HpK W0 w h l K) (hs : Spares own w w') (hn : ∀ k, k < w.heap.size → K k → ¬ own k) (hlo : ∀ k, own k → W0.heap.size ≤ k) : HpK W0 w' h l K := by
  obtain ⟨A, c, hp, k1, k2, k3⟩ := hk
  refine ⟨A, c, ⟨(hs.same _ hp.box.lt (hn _ hp.box.lt k1)).trans hp.box, owned_same3 hp.own fun k e => hs.same _ (owned_lt3 hp.own e).2 (hn _ (owned_lt3 hp.own e).2 (k2 k e)), hp.apart, fun x hx => (hp.els x hx).same (hs.same _ (hp.els x hx).blk.lt (hn _ (hp.els x hx).blk.lt (k3 x hx))), hp.far, hp.good, hp.few, ?_⟩, k1, k2, k3⟩
  exact ((Spares.grows (own := own) hp.old).trans hs).below (Nat.le_refl _) fun k hk ho => by have := hlo k ho; omega
theorem HpK.wider {W0 w : World} {h : Nat} {l : List El} {K K' : Nat → Prop} (hk : HpK W0 w h l K) (hw : ∀ k, k < w.heap.size → K k → K' k) : HpK W0 w h l K' := by
  obtain ⟨A, c, hp, k1, k2, k3⟩ := hk
  exact ⟨A, c, hp, hw _ hp.box.lt k1, fun k e => hw k (owned_lt3 hp.own e).2 (k2 k e), fun x hx => hw _ (hp.els x hx).blk.lt (k3 x hx)⟩
theorem flat_len1 (l : List El) : (l.flatMap elE).length = l.length := by rw [flat_length elL, Nat.mul_one]
theorem flat_el (l : List El) : l.flatMap elE = l.map elV := by
  induction l with
  | nil => rfl
  | cons x l ih => rw [List.flatMap_cons, ih]; rfl
/-- What a row's cell is. -/
theorem cell1 {w : World} {base g n c i : Nat} {l : List El} (h : w.ownsRow base 51 1 (.slice (some ⟨g, 0, none⟩) n c) n (l.flatMap elE)) {x : El} (hx : l[i]? = some x) : w.cell? ⟨g, i, none⟩ = some (elV x) := by
  have hlen : l.length = n := by have := h.1; rw [flat_len1] at this; omega
  have hi : i < n := by rw [← hlen]; exact (List.getElem?_eq_some_iff.1 hx).1
  rw [h.cellAt i (by omega), flat_el, List.getElem?_map, hx]
  rfl
end Go.Proofs.Ytnnkioekjobbmaa
