/-
  A directory in memory; Get, Put, Del, Many.
-/
import Derived.Test.YtadgbobemmfjoaaKsPut
namespace Go.Proofs.Ytadgbobemmfjoaa
open Go.RowKit
set_option linter.unusedVariables false
set_option linter.unusedSimpArgs false

/-- A directory at block d: its rows' words, and their cells, in blocks of sets that are apart. -/
structure DirMem (w : World) (d : Nat) (own : Nat → Prop) (R : Rows) (G : Nat → Nat) (S : Nat → Nat → Prop) (vs : Nat → List Value) (cs : Array Value) : Prop where
  blk : Whole w d 52 cs
  size : cs.size = 128
  word0 : ∀ r, r < 64 → cs[r * 2]? = some (.slice (some ⟨G r, 0, none⟩) (R r).length (R r).length)
  word1 : ∀ r, r < 64 → cs[r * 2 + 1]? = some (.int .i64 ((R r).flatten.length : Nat))
  cells : ∀ r, r < 64 → CellsV w (S r) (G r) (R r) (vs r)
  sub : ∀ r, r < 64 → ∀ k, S r k → own k
  apart : ∀ r r' k, r < 64 → r' < 64 → S r k → S r' k → r = r'
  off : ¬ own d
  lt : ∀ k, own k → k < w.heap.size
def DirIn (w : World) (d : Nat) (own : Nat → Prop) (L : List Pl) : Prop :=
  (∃ R G S vs cs, DirMem w d own R G S vs cs ∧ KsOk R L) ∧ (∀ p ∈ L, p.key.length ≤ 1000000000)
def DirTo (w : World) (d : Nat) (own : Nat → Prop) (L : List Pl) (w' : World) : Prop :=
  ∃ own', DirIn w' d own' L ∧ (∀ k, own' k → own k ∨ w.heap.size ≤ k) ∧ Spares (fun k => own k ∨ k = d) w w'
section
variable {w w' : World} {d : Nat} {own : Nat → Prop} {L : List Pl} {R : Rows} {G : Nat → Nat} {S : Nat → Nat → Prop} {vs : Nat → List Value} {cs : Array Value}
theorem DirMem.same (h : DirMem w d own R G S vs cs) (hs : w.heap.size ≤ w'.heap.size) (hd : w'.heap[d]? = w.heap[d]?) (hk : ∀ k, own k → w'.heap[k]? = w.heap[k]?) : DirMem w' d own R G S vs cs :=
  ⟨hd.trans h.blk, h.size, h.word0, h.word1, fun r hr => (h.cells r hr).same hs fun k hkS => hk k (h.sub r hr k hkS), h.sub, h.apart, h.off, fun k hk => Nat.lt_of_lt_of_le (h.lt k hk) hs⟩
theorem DirMem.grow (h : DirMem w d own R G S vs cs) (hg : Grows w w') : DirMem w' d own R G S vs cs := h.same hg.size (hg.block _ h.blk.lt) fun k hk => hg.block k (h.lt k hk)
theorem DirIn.grow (h : DirIn w d own L) (hg : Grows w w') : DirIn w' d own L := by
  obtain ⟨⟨R, G, S, vs, cs, h1, h2⟩, h3⟩ := h
  exact ⟨⟨R, G, S, vs, cs, h1.grow hg, h2⟩, h3⟩
theorem DirIn.off {oth : Nat → Prop} (h : DirIn w d own L) (hs : Spares oth w w') (ho : ∀ k, (own k ∨ k = d) → ¬ oth k) : DirIn w' d own L := by
  obtain ⟨⟨R, G, S, vs, cs, h1, h2⟩, h3⟩ := h
  exact ⟨⟨R, G, S, vs, cs, h1.same hs.size (hs.same d h1.blk.lt (ho d (.inr rfl))) fun k hk => hs.same k (h1.lt k hk) (ho k (.inl hk)), h2⟩, h3⟩
theorem DirIn.lt (h : DirIn w d own L) : d < w.heap.size ∧ ∀ k, own k → k < w.heap.size := by
  obtain ⟨⟨R, G, S, vs, cs, h1, h2⟩, h3⟩ := h
  exact ⟨h1.blk.lt, h1.lt⟩
theorem DirIn.noff (h : DirIn w d own L) : ¬ own d := by
  obtain ⟨⟨R, G, S, vs, cs, h1, h2⟩, h3⟩ := h
  exact h1.off
theorem DirIn.keep (h : DirIn w d own L) (hg : Grows w w') : DirTo w d own L w' := ⟨own, h.grow hg, fun k hk => .inl hk, Spares.grows hg⟩
theorem DirTo.ofGrows {w0 : World} (hg : Grows w w0) (h : DirTo w0 d own L w') : DirTo w d own L w' := by
  obtain ⟨own', h1, h2, h3⟩ := h
  exact ⟨own', h1, fun k hk => (h2 k hk).imp_right fun e => Nat.le_trans hg.size e, (Spares.grows hg).trans h3⟩
theorem DirTo.grows {w0 : World} (h : DirTo w d own L w0) (hg : Grows w0 w') : DirTo w d own L w' := by
  obtain ⟨own', h1, h2, h3⟩ := h
  exact ⟨own', h1.grow hg, h2, h3.trans (Spares.grows hg)⟩
theorem DirMem.row (h : DirMem w d own R G S vs cs) {r : Nat} (hr : r < 64) : RowIn w d (r * 2) (S r) (R r) 52 (fun i => cs[i]?) :=
  ⟨G r, vs r, cs, h.blk, h.word0 r hr, h.word1 r hr, fun i _ _ => rfl, h.cells r hr, fun e => h.off (h.sub r hr d e)⟩
/-- A row behind a call. -/
theorem DirMem.turned (h : DirMem w d own R G S vs cs) {r : Nat} (hr : r < 64) {c : List (List Pl)} (ht : RowTo w d (r * 2) (S r) c 52 (fun i => cs[i]?) w') :
    ∃ own' G' S' vs' cs', DirMem w' d own' (R.put r c) G' S' vs' cs' ∧ (∀ k, own' k → own k ∨ w.heap.size ≤ k) ∧ Spares (fun k => own k ∨ k = d) w w' := by
  obtain ⟨⟨S1, ⟨g1, vs1, cs1, a1, a2, a3, a4, a5, a6⟩, hS1⟩, hs⟩ := ht
  have a4 : ∀ i, i ≠ r * 2 → i ≠ r * 2 + 1 → cs1[i]? = cs[i]? := a4
  have hsz := hs.size
  have hcs1 : cs1.size = 128 := by
    have h1 := h.size
    rcases Nat.lt_trichotomy cs1.size 128 with hlt | heq | hgt
    · exfalso
      by_cases e : 127 = r * 2 + 1
      · have := (Array.getElem?_eq_some_iff.1 a3).1; omega
      · have h2 := a4 127 (by omega) (by omega)
        rw [Array.getElem?_eq_none (show cs1.size ≤ 127 by omega), Array.getElem?_eq_getElem (show 127 < cs.size by omega)] at h2
        cases h2
    · exact heq
    · exfalso
      have h2 := a4 128 (by omega) (by omega)
      rw [Array.getElem?_eq_none (show cs.size ≤ 128 by omega), Array.getElem?_eq_getElem (show 128 < cs1.size by omega)] at h2
      cases h2
  have hoth : ∀ r', r' < 64 → r' ≠ r → ∀ k, S r' k → w'.heap[k]? = w.heap[k]? := fun r' hr' hne k hk => hs.same k (h.lt k (h.sub r' hr' k hk)) fun e => e.elim (fun e => hne (h.apart r' r k hr' hr hk e)) fun e => h.off (e ▸ h.sub r' hr' k hk)
  refine ⟨fun k => own k ∨ (S1 k ∧ w.heap.size ≤ k), fun k => if k = r then g1 else G k, fun k => if k = r then S1 else S k, fun k => if k = r then vs1 else vs k, cs1, ⟨a1, hcs1, ?_, ?_, ?_, ?_, ?_, ?_, ?_⟩, fun k hk => hk.imp_right fun h => h.2, hs.wider fun k _ hk => hk.imp_left (h.sub r hr k)⟩
  · intro r' hr'
    unfold Rows.put
    by_cases e : r' = r
    · subst e; simp only [if_pos]; exact a2
    · simp only [if_neg e]
      rw [a4 (r' * 2) (by omega) (by omega)]
      exact h.word0 r' hr'
  · intro r' hr'
    unfold Rows.put
    by_cases e : r' = r
    · subst e; simp only [if_pos]; exact a3
    · simp only [if_neg e]
      rw [a4 (r' * 2 + 1) (by omega) (by omega)]
      exact h.word1 r' hr'
  · intro r' hr'
    unfold Rows.put
    by_cases e : r' = r
    · subst e; simp only [if_pos]; exact a5
    · simp only [if_neg e]
      exact (h.cells r' hr').same hsz (hoth r' hr' e)
  · intro r' hr' k hk
    by_cases e : r' = r
    · subst e
      simp only [if_pos] at hk
      rcases hS1 k hk with h1 | h1
      · exact .inl (h.sub r' hr' k h1)
      · exact .inr ⟨hk, h1⟩
    · simp only [if_neg e] at hk
      exact .inl (h.sub r' hr' k hk)
  · intro r1 r2 k hr1 hr2 h1 h2
    by_cases e1 : r1 = r <;> by_cases e2 : r2 = r
    · rw [e1, e2]
    · exfalso
      simp only [if_pos e1] at h1
      simp only [if_neg e2] at h2
      have hk := h.lt k (h.sub r2 hr2 k h2)
      rcases hS1 k h1 with h3 | h3
      · exact e2 (h.apart r2 r k hr2 hr h2 h3)
      · omega
    · exfalso
      simp only [if_neg e1] at h1
      simp only [if_pos e2] at h2
      have hk := h.lt k (h.sub r1 hr1 k h1)
      rcases hS1 k h2 with h3 | h3
      · exact e1 (h.apart r1 r k hr1 hr h1 h3)
      · omega
    · simp only [if_neg e1] at h1
      simp only [if_neg e2] at h2
      exact h.apart r1 r2 k hr1 hr2 h1 h2
  · rintro (e | ⟨e, _⟩)
    · exact h.off e
    · exact a6 e
  · rintro k (hk | ⟨hk, _⟩)
    · exact Nat.lt_of_lt_of_le (h.lt k hk) hsz
    · exact a5.lt k hk
end
theorem KsOk.keys {R : Rows} {L : List Pl} (h : KsOk R L) (hk : ∀ p ∈ L, p.key.length ≤ 1000000000) {r : Nat} (hr : r < 64) : ∀ p ∈ (R r).flatten, p.key.length ≤ 1000000000 := fun p hp => hk p ((h.mem p).2 (by rw [(h.row r hr).at hp]; exact hp))
set_option maxHeartbeats 1000000 in
theorem kget_any {d : Nat} {own : Nat → Prop} {L : List Pl} (key : List UInt8) (hk : key.length ≤ 1000000000) (w : World) (h : DirIn w d own L) (hn : L.length < 400000) :
    Calls Try.prog 15 #[.pointer (some ⟨d, 0, none⟩), .string ⟨key.toArray⟩] w fun e w' => e = .returned (plTo (getL key L)) ∧ Grows w w' := by
  obtain ⟨⟨R, G, S, vs, cs, hM, hK⟩, hkeys⟩ := h
  have hr := rowOf_lt key
  have hg1 := grows_alloc w (.cells #[.int .i64 0, .int .i64 0, .string ⟨#[]⟩, .int .i64 0, .int .i64 0] 32)
  have hm1 := Whole.made w 32 #[.int .i64 0, .int .i64 0, .string ⟨#[]⟩, .int .i64 0, .int .i64 0]
  obtain ⟨W1, hW1⟩ : ∃ W1, w.alloc (.cells #[.int .i64 0, .int .i64 0, .string ⟨#[]⟩, .int .i64 0, .int .i64 0] 32) = W1 := ⟨_, rfl⟩
  rw [hW1] at hg1 hm1
  obtain ⟨kb, hkb⟩ : ∃ kb, w.heap.size = kb := ⟨_, rfl⟩
  rw [hkb] at hm1
  have HKB := Lib.hid (show w.heap.size ≤ kb from by omega)
  have HROW := Lib.hid (row_any key hk (d := d) W1)
  have HX := Lib.hid (And.intro hg1 hm1)
  have hget : ∀ w2, Grows W1 w2 → Calls Try.prog 31 #[.pointer (some ⟨d, rowOf key * 2, none⟩), .string ⟨key.toArray⟩] w2 fun e w' => e = .returned (plTo (getL key L)) ∧ Grows w2 w' := fun w2 hg2 => by
    obtain ⟨g, vsr, hra⟩ := ((hM.grow (Grows.trans hg1 hg2)).row hr).at
    have h1 := rget_any key hk w2 hra (hK.row _ hr).pos ⟨by have := hK.cellsLe hr; omega, by have := hK.rowLe hr; omega⟩
    rw [hK.get] at h1
    exact h1
  have HGET := Lib.hid hget
  obtain ⟨x, hx⟩ : ∃ x, getL key L = x := ⟨_, rfl⟩
  rw [hx] at HGET ⊢
  obtain ⟨y, hy⟩ : ∃ y, x.getD Pl.zero = y := ⟨_, rfl⟩
  obtain ⟨z, hz⟩ : ∃ z, x.isSome = z := ⟨_, rfl⟩
  have hpl : plTo x = .tuple #[plV y, .bool z] := by unfold plTo; rw [hy, hz]
  rw [hpl] at HGET ⊢
  obtain ⟨y0, y1, y2, y3, y4⟩ := y
  unfold plV at HGET ⊢
  dsimp only at HGET ⊢
  obtain ⟨o, ho⟩ : ∃ o, rowOf key * 2 = o := ⟨_, rfl⟩
  rw [ho] at HROW HGET
  clear hM hK hkeys hg1 hm1 hget hx hy hz hpl ho
  go_enter Try.func15, Try.ntmps15
  go_wp2_with (first | rw [hW1] | fail)
  refine HROW.out.mono ?_
  rintro e w2 ⟨rfl, hg2⟩
  have HG2 := Lib.hid hg2
  have HC := Lib.hid (HGET.out w2 hg2)
  clear hg2 HGET HROW
  go_wp2_with (fail)
  refine HC.out.mono ?_
  rintro e w3 ⟨rfl, hg3⟩
  have HG3 := Lib.hid (And.intro (Grows.trans HX.out.1 (Grows.trans HG2.out hg3)) (hg3.whole (HG2.out.whole HX.out.2)))
  clear hg3 HC
  go_wp2_with (first
    | (refine wpList_store_row rfl 32 _ _ rfl kb #[.int .i64 y0, .int .i64 y1, .string ⟨y2.toArray⟩, .int .i64 y3, .int .i64 y4] rfl rfl 32 _ HG3.out.2 sizePl rfl (plV_one _ _ _ _ _) ?_)
    | fail)
  refine bodyPost_ret (results_pl2 rfl _ _ kb 32 (.int .i64 y0) (.int .i64 y1) (.string ⟨y2.toArray⟩) (.int .i64 y3) (.int .i64 y4) (.bool z) rfl rfl (HG3.out.2.rowed _)) rfl ?_
  exact ⟨rfl, below_setRow HG3.out.1 HKB.out _⟩
end Go.Proofs.Ytadgbobemmfjoaa
