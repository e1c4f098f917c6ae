/-
  Places in memory; rows of cells in memory.
-/
import Derived.Test.YtadgbobemmfjoaaKsHash
namespace Go.Proofs.Ytadgbobemmfjoaa
open Go.RowKit
set_option linter.unusedVariables false
set_option linter.unusedSimpArgs false

def plE (p : Pl) : List Value := [.int .i64 p.seg, .int .i64 p.kind, .string ⟨p.key.toArray⟩, .int .i64 p.at_, .int .i64 p.size]
def plV (p : Pl) : Value := .agg #[.int .i64 p.seg, .int .i64 p.kind, .string ⟨p.key.toArray⟩, .int .i64 p.at_, .int .i64 p.size]
theorem plL (x : Pl) : (plE x).length = 5 := rfl
theorem plE_one (x : Pl) : ∀ u ∈ plE x, u.oneCell' = true := by
  intro u hu
  simp only [plE, List.mem_cons, List.not_mem_nil, or_false] at hu
  rcases hu with rfl | rfl | rfl | rfl | rfl <;> first | rfl | simp [Value.oneCell']
theorem infoPl : (Try.prog.info? 32).map (fun i => (i.zero, i.size, i.bytes)) = some (some (.agg #[.int .i64 0, .int .i64 0, .string ⟨#[]⟩, .int .i64 0, .int .i64 0]), 5, 48) := by kernel_rfl
abbrev OwnP (w : World) (base : Nat) (v : Value) (l : List Pl) : Prop := w.ownsRow base 32 5 v l.length (l.flatMap plE)
abbrev Pls (w : World) (A : Option Addr) (n c : Nat) (l : List Pl) : Prop := Rs w A n c plE 5 l
theorem flat_len5 (l : List Pl) : (l.flatMap plE).length = l.length * 5 := flat_length plL l
theorem five_at {w : World} {a : Addr} {x : Pl} (h : ∀ j u, (plE x)[j]? = some u → w.cell? (a.add j) = some u) :
    w.cell? a = some (.int .i64 x.seg) ∧ w.cell? { block := a.block, off := a.off + 1 } = some (.int .i64 x.kind) ∧ w.cell? { block := a.block, off := a.off + 2 } = some (.string ⟨x.key.toArray⟩) ∧
      w.cell? { block := a.block, off := a.off + 3 } = some (.int .i64 x.at_) ∧ w.cell? { block := a.block, off := a.off + 4 } = some (.int .i64 x.size) := by
  have k0 := h 0 _ rfl
  have k1 := h 1 _ rfl
  have k2 := h 2 _ rfl
  have k3 := h 3 _ rfl
  have k4 := h 4 _ rfl
  rw [show a.add 0 = a from by unfold Addr.add; simp] at k0
  rw [Addr.add_succ'] at k1 k2 k3 k4
  exact ⟨k0, k1, k2, k3, k4⟩
theorem Pls.at {w : World} {A : Option Addr} {n c : Nat} {l : List Pl} (h : Pls w A n c l) {i : Nat} (hi : i < n) : ∃ ad x, A = some ad ∧ l[i]? = some x ∧ ad.block < w.heap.size ∧
    ∀ w', Grows w w' → w'.cell? (ad.add (i * 5)) = some (.int .i64 x.seg) ∧ w'.cell? { block := (ad.add (i * 5)).block, off := (ad.add (i * 5)).off + 1 } = some (.int .i64 x.kind) ∧ w'.cell? { block := (ad.add (i * 5)).block, off := (ad.add (i * 5)).off + 2 } = some (.string ⟨x.key.toArray⟩) ∧
      w'.cell? { block := (ad.add (i * 5)).block, off := (ad.add (i * 5)).off + 3 } = some (.int .i64 x.at_) ∧ w'.cell? { block := (ad.add (i * 5)).block, off := (ad.add (i * 5)).off + 4 } = some (.int .i64 x.size) := by
  obtain ⟨ad, x, h1, h2, h3, h4⟩ := Rs.get plL (by omega) h hi
  refine ⟨ad, x, h1, h2, h3, fun w' hg => ?_⟩
  exact five_at fun j u hj => (hg.cell (by rw [add_block, add_block]; exact h3)).trans (h4 j u hj)

/-- A row's cells in memory: block g has their slices, vs; all blocks are of S. -/
structure CellsV (w : World) (S : Nat → Prop) (g : Nat) (cells : List (List Pl)) (vs : List Value) : Prop where
  blk : Whole w g 54 vs.toArray
  len : vs.length = cells.length
  gS : S g
  lt : ∀ k, S k → k < w.heap.size
  own : ∀ (c : Nat) (l : List Pl) (v : Value), cells[c]? = some l → vs[c]? = some v → OwnP w 0 v l
  inS : ∀ (c : Nat) (v : Value) (k : Nat), vs[c]? = some v → v.ownBlock = some k → S k ∧ k ≠ g
  apart : ∀ (c c' : Nat) (v v' : Value) (k : Nat), vs[c]? = some v → vs[c']? = some v' → v.ownBlock = some k → v'.ownBlock = some k → c = c'
/-- What a row's cells in two words say: where its cells' slices stand, and how many places it has. -/
structure RowAt (w : World) (b o : Nat) (S : Nat → Prop) (g : Nat) (cells : List (List Pl)) (vs : List Value) : Prop where
  c0 : w.cell? ⟨b, o, none⟩ = some (.slice (some ⟨g, 0, none⟩) cells.length cells.length)
  c1 : w.cell? ⟨b, o + 1, none⟩ = some (.int .i64 (cells.flatten.length : Nat))
  cells : CellsV w S g cells vs
  off : ¬ S b
theorem CellsV.at {w : World} {S : Nat → Prop} {g : Nat} {cells : List (List Pl)} {vs : List Value} (h : CellsV w S g cells vs) {c : Nat} (hc : c < cells.length) :
    ∃ l A cap, cells[c]? = some l ∧ vs[c]? = some (.slice A l.length cap) ∧ w.cell? ⟨g, c, none⟩ = some (.slice A l.length cap) ∧ OwnP w 0 (.slice A l.length cap) l ∧ Pls w A l.length cap l ∧ cells.getD c [] = l := by
  have hl : cells[c]? = some cells[c] := List.getElem?_eq_getElem hc
  have hv : vs[c]? = some (vs[c]'(by rw [h.len]; exact hc)) := List.getElem?_eq_getElem _
  obtain ⟨v, hv2⟩ : ∃ v, vs[c]'(by rw [h.len]; exact hc) = v := ⟨_, rfl⟩
  rw [hv2] at hv
  have ho := h.own c _ v hl hv
  obtain ⟨A, cap, rfl⟩ := slice_ownP ho
  refine ⟨_, A, cap, hl, hv, ?_, ho, Rs.owned plL rfl ho, by simp [hc]⟩
  rw [h.blk.cell]
  simpa using hv
theorem CellsV.same {w w' : World} {S : Nat → Prop} {g : Nat} {cells : List (List Pl)} {vs : List Value} (h : CellsV w S g cells vs) (hs : w.heap.size ≤ w'.heap.size) (hk : ∀ k, S k → w'.heap[k]? = w.heap[k]?) : CellsV w' S g cells vs :=
  ⟨(hk g h.gS).trans h.blk, h.len, h.gS, fun k hkS => Nat.lt_of_lt_of_le (h.lt k hkS) hs, fun c l v h1 h2 => owned_same3 (h.own c l v h1 h2) fun k hv => hk k (h.inS c v k h2 hv).1, h.inS, h.apart⟩
theorem CellsV.grow {w w' : World} {S : Nat → Prop} {g : Nat} {cells : List (List Pl)} {vs : List Value} (h : CellsV w S g cells vs) (hg : Grows w w') : CellsV w' S g cells vs := h.same hg.size fun k hk => hg.block k (h.lt k hk)
theorem CellsV.off {w w' : World} {S own : Nat → Prop} {g : Nat} {cells : List (List Pl)} {vs : List Value} (h : CellsV w S g cells vs) (hs : Spares own w w') (ho : ∀ k, S k → ¬ own k) : CellsV w' S g cells vs := h.same hs.size fun k hk => hs.same k (h.lt k hk) (ho k hk)
theorem CellsV.wider {w : World} {S S' : Nat → Prop} {g : Nat} {cells : List (List Pl)} {vs : List Value} (h : CellsV w S g cells vs) (hs : ∀ k, S k → S' k) (hl : ∀ k, S' k → k < w.heap.size) : CellsV w S' g cells vs :=
  ⟨h.blk, h.len, hs g h.gS, hl, h.own, fun c v k h1 h2 => ⟨hs k (h.inS c v k h1 h2).1, (h.inS c v k h1 h2).2⟩, h.apart⟩
theorem RowAt.ltb {w : World} {b o g : Nat} {S : Nat → Prop} {cells : List (List Pl)} {vs : List Value} (h : RowAt w b o S g cells vs) : b < w.heap.size := World.block_lt_of_cell? w ⟨b, o, none⟩ h.c0
theorem RowAt.same {w w' : World} {b o g : Nat} {S : Nat → Prop} {cells : List (List Pl)} {vs : List Value} (h : RowAt w b o S g cells vs) (hs : w.heap.size ≤ w'.heap.size) (hb : w'.heap[b]? = w.heap[b]?) (hk : ∀ k, S k → w'.heap[k]? = w.heap[k]?) : RowAt w' b o S g cells vs :=
  ⟨(World.cell?_of_block (a := ⟨b, o, none⟩) hb).trans h.c0, (World.cell?_of_block (a := ⟨b, o + 1, none⟩) hb).trans h.c1, h.cells.same hs hk, h.off⟩
theorem RowAt.grow {w w' : World} {b o g : Nat} {S : Nat → Prop} {cells : List (List Pl)} {vs : List Value} (h : RowAt w b o S g cells vs) (hg : Grows w w') : RowAt w' b o S g cells vs :=
  h.same hg.size (hg.block _ h.ltb) fun k hk => hg.block k (h.cells.lt k hk)
/-- A cell that is turned: its slice too. -/
theorem CellsV.turn {w w' : World} {S : Nat → Prop} {g : Nat} {cells : List (List Pl)} {vs : List Value} (h : CellsV w S g cells vs) {c : Nat} {v0 v : Value} {l : List Pl} (hc : c < cells.length) (hv0 : vs[c]? = some v0)
    (hblk : Whole w' g 54 (vs.set c v).toArray) (hs : w.heap.size ≤ w'.heap.size) (ho : OwnP w' 0 v l) (hnew : ∀ k, v.ownBlock = some k → v0.ownBlock = some k ∨ w.heap.size ≤ k)
    (hk : ∀ k, S k → k ≠ g → v0.ownBlock ≠ some k → w'.heap[k]? = w.heap[k]?) : CellsV w' (fun k => S k ∨ (w.heap.size ≤ k ∧ k < w'.heap.size)) g (cells.set c l) (vs.set c v) := by
  have hcv : c < vs.length := by rw [h.len]; exact hc
  have hg := h.lt g h.gS
  have hin : ∀ k, v.ownBlock = some k → (S k ∨ (w.heap.size ≤ k ∧ k < w'.heap.size)) ∧ k ≠ g := fun k hkv => by
    rcases hnew k hkv with e | e
    · exact ⟨.inl (h.inS c v0 k hv0 e).1, (h.inS c v0 k hv0 e).2⟩
    · exact ⟨.inr ⟨e, (owned_lt3 ho hkv).2⟩, by omega⟩
  refine ⟨hblk, by rw [List.length_set, List.length_set, h.len], .inl h.gS, ?_, ?_, ?_, ?_⟩
  · rintro k (hk | hk)
    · exact Nat.lt_of_lt_of_le (h.lt k hk) hs
    · exact hk.2
  · intro c' l' v' h1 h2
    rw [List.getElem?_set] at h1 h2
    split at h1
    · rename_i e
      rw [if_pos e, if_pos hcv] at h2
      injection h1 with h1
      injection h2 with h2
      subst h1 h2
      exact ho
    · rename_i e
      rw [if_neg e] at h2
      refine owned_same3 (h.own c' l' v' h1 h2) fun k hkv => hk k (h.inS c' v' k h2 hkv).1 (h.inS c' v' k h2 hkv).2 fun e2 => e ?_
      exact h.apart c c' v0 v' k hv0 h2 e2 hkv
  · intro c' v' k h2 hkv
    rw [List.getElem?_set] at h2
    split at h2
    · rename_i e
      injection h2 with h2
      subst h2
      exact hin k hkv
    · exact ⟨.inl (h.inS c' v' k h2 hkv).1, (h.inS c' v' k h2 hkv).2⟩
  · intro c1 c2 v1 v2 k h1 h2 e1 e2
    rw [List.getElem?_set] at h1 h2
    split at h1
    · rename_i q1
      injection h1 with h1
      subst h1
      split at h2
      · rename_i q2; omega
      · rename_i q2
        exfalso
        rcases hnew k e1 with e3 | e3
        · exact q2 (h.apart c c2 v0 v2 k hv0 h2 e3 e2)
        · have := h.lt k (h.inS c2 v2 k h2 e2).1; omega
    · rename_i q1
      split at h2
      · rename_i q2
        injection h2 with h2
        subst h2
        exfalso
        rcases hnew k e2 with e3 | e3
        · exact q1 (h.apart c c1 v0 v1 k hv0 h1 e3 e1)
        · have := h.lt k (h.inS c1 v1 k h1 e1).1; omega
      · exact h.apart c1 c2 v1 v2 k h1 h2 e1 e2
theorem sizePl : (Try.prog.info? 32).map (·.size) = some 5 := by kernel_rfl
theorem plV_one (u0 u1 u3 u4 : Int) (u2 : ByteArray) : (#[Value.int .i64 u0, .int .i64 u1, .string u2, .int .i64 u3, .int .i64 u4] : Array Value).all (·.oneCell') = true := by simp [Value.oneCell']
theorem Whole.rowed {w : World} {g : Nat} {t : TypeId} {cs : Array Value} (h : Whole w g t cs) (cs' : Array Value) : Whole (w.setRow g cs') g t cs' := setRow_heap w g _ _ t _ h
theorem results_pl2 {fn : Func} {p q : Tmp} (h : fn.results = #[.cell p 32, .tmp q]) (tmps : Array Value) (w : World) (g : Nat) (t : TypeId) (u0 u1 u2 u3 u4 b : Value)
    (hp : tmps.getD p undef = .pointer (some ⟨g, 0, none⟩)) (hq : tmps.getD q undef = b) (hg : Whole w g t #[u0, u1, u2, u3, u4]) :
    (results fn tmps).run Try.prog w = .ok (.tuple #[.agg #[u0, u1, u2, u3, u4], b]) w := by
  have hp' : tmps[p]?.getD undef = .pointer (some ⟨g, 0, none⟩) := by simpa using hp
  have hq' : tmps[q]?.getD undef = b := by simpa using hq
  have hi : (Try.prog.info? 32).map (·.size) = some 5 := by kernel_rfl
  simp [results, h, hp', hq', asAddr, run_loadVar_row w g t 32 #[u0, u1, u2, u3, u4] (0, 0) _ hg Try.underlying32 rfl hi]
end Go.Proofs.Ytadgbobemmfjoaa
