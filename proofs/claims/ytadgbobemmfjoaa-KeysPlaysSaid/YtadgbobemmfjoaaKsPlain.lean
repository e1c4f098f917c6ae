/-
  Where keys stand, plainly: places by key, in order; rows of cells in which they lie by their keys' hashes. No program in sight.
-/
import Derived.Test.YtadgbobemmfjoaaSeat
import Derived.Maps.OwnSet
namespace Go.Proofs.Ytadgbobemmfjoaa
set_option linter.unusedVariables false
set_option linter.unusedSimpArgs false

/-! The order of keys. -/
theorem kbef_irrefl : ∀ a : List UInt8, bytesBefore a a = false
  | [] => rfl
  | a :: r => by
    have := kbef_irrefl r
    simp [bytesBefore, this]
theorem kbef_total : ∀ {a b : List UInt8}, bytesBefore a b = false → a ≠ b → bytesBefore b a = true
  | [], [], _, h => absurd rfl h
  | [], _ :: _, h, _ => by simp [bytesBefore] at h
  | _ :: _, [], _, _ => rfl
  | x :: r, y :: s, h, hne => by
    simp only [bytesBefore, Bool.or_eq_false_iff, decide_eq_false_iff_not, Bool.and_eq_false_iff, beq_eq_false_iff_ne] at h
    simp only [bytesBefore, Bool.or_eq_true, decide_eq_true_eq, Bool.and_eq_true, beq_iff_eq]
    obtain ⟨h1, h2⟩ := h
    by_cases hxy : x = y
    · subst hxy
      refine .inr ⟨rfl, kbef_total (h2.resolve_left fun h => h rfl) fun e => hne (by rw [e])⟩
    · refine .inl ?_
      have h3 : ¬ x.toNat < y.toNat := h1
      have h4 : x.toNat ≠ y.toNat := fun e => hxy (UInt8.toNat_inj.1 e)
      show y.toNat < x.toNat
      omega
theorem kbef_trans : ∀ {a b c : List UInt8}, bytesBefore a b = true → bytesBefore b c = true → bytesBefore a c = true
  | [], [], _, h, _ => by simp [bytesBefore] at h
  | [], _ :: _, [], _, h => by simp [bytesBefore] at h
  | [], _ :: _, _ :: _, _, _ => rfl
  | _ :: _, [], _, h, _ => by simp [bytesBefore] at h
  | _ :: _, _ :: _, [], _, h => by simp [bytesBefore] at h
  | x :: r, y :: s, z :: t, h, k => by
    simp only [bytesBefore, Bool.or_eq_true, decide_eq_true_eq, Bool.and_eq_true, beq_iff_eq] at h k ⊢
    rcases h with h | ⟨rfl, h⟩
    · rcases k with k | ⟨rfl, k⟩
      · left
        have h3 : x.toNat < y.toNat := h
        have h4 : y.toNat < z.toNat := k
        show x.toNat < z.toNat
        omega
      · exact .inl h
    · rcases k with k | ⟨rfl, k⟩
      · exact .inl k
      · exact .inr ⟨rfl, kbef_trans h k⟩
theorem kbef_asymm {a b : List UInt8} (h : bytesBefore a b = true) : bytesBefore b a = false := by
  rcases hb : bytesBefore b a with _ | _
  · rfl
  · have := kbef_trans h hb
    rw [kbef_irrefl] at this
    cases this
theorem kbef_ne {a b : List UInt8} (h : bytesBefore a b = true) : a ≠ b := fun e => by subst e; rw [kbef_irrefl] at h; cases h

/-! Hashes. -/
def hstep (h : Nat) (b : UInt8) : Nat := (h ^^^ b.toNat) * 16777619 % 4294967296
def hfold (k : List UInt8) : Nat := k.foldl hstep 2166136261
def hmix (h : Nat) : Nat := (h ^^^ (h >>> 16)) * 2246822507 % 4294967296
def hashP (k : List UInt8) : Nat := hmix (hfold k) ^^^ (hmix (hfold k) >>> 13)
theorem hstep_lt (h : Nat) (b : UInt8) : hstep h b < 4294967296 := Nat.mod_lt _ (by omega)
theorem hmix_lt (h : Nat) : hmix h < 4294967296 := Nat.mod_lt _ (by omega)
theorem hfold_lt (k : List UInt8) : hfold k < 4294967296 := by
  unfold hfold
  have : ∀ (l : List UInt8) (h : Nat), h < 4294967296 → l.foldl hstep h < 4294967296 := by
    intro l
    induction l with
    | nil => intro h hh; exact hh
    | cons x r ih => intro h hh; exact ih _ (hstep_lt _ _)
  exact this k _ (by omega)
theorem foldl_snoc {α β : Type} (f : β → α → β) (a : β) (k : List α) (b : α) : (k ++ [b]).foldl f a = f (k.foldl f a) b := by rw [List.foldl_append]; rfl
theorem hfold_snoc (k : List UInt8) (b : UInt8) : hfold (k ++ [b]) = hstep (hfold k) b := foldl_snoc hstep _ k b
theorem hashP_lt (k : List UInt8) : hashP k < 4294967296 := by
  unfold hashP
  have h := hmix_lt (hfold k)
  exact Nat.xor_lt_two_pow (n := 32) h (Nat.lt_of_le_of_lt (Nat.shiftRight_le _ _) h)

/-! Places. -/
structure Pl where
  seg : Int
  kind : Int
  key : List UInt8
  at_ : Int
  size : Int
deriving DecidableEq
instance : Inhabited Pl := ⟨⟨0, 0, [], 0, 0⟩⟩
def Pl.zero : Pl := ⟨0, 0, [], 0, 0⟩
/-- No two of one key. -/
def Uniq (l : List Pl) : Prop := l.Pairwise fun a b => a.key ≠ b.key
/-- In order. -/
def Inc (l : List Pl) : Prop := l.Pairwise fun a b => bytesBefore a.key b.key = true
theorem Inc.uniq {l : List Pl} (h : Inc l) : Uniq l := h.imp fun h => kbef_ne h
theorem Uniq.nodup {l : List Pl} (h : Uniq l) : l.Nodup := h.imp fun h e => h (by rw [e])
def getL (key : List UInt8) (l : List Pl) : Option Pl := l.find? fun p => p.key == key
def delL (key : List UInt8) (l : List Pl) : List Pl := l.filter fun p => !(p.key == key)
def insL (p : Pl) : List Pl → List Pl
  | [] => [p]
  | y :: r => if bytesBefore y.key p.key then y :: insL p r else p :: y :: r
def kputL (p : Pl) (l : List Pl) : List Pl := insL p (delL p.key l)
theorem getL_none {key : List UInt8} {l : List Pl} : getL key l = none ↔ ∀ p ∈ l, p.key ≠ key := by
  unfold getL
  rw [List.find?_eq_none]
  simp
theorem getL_mem {key : List UInt8} {l : List Pl} {p : Pl} (h : getL key l = some p) : p ∈ l ∧ p.key = key := by
  unfold getL at h
  exact ⟨List.mem_of_find?_eq_some h, by simpa using List.find?_some h⟩
theorem Uniq.one {l : List Pl} (h : Uniq l) {p q : Pl} (hp : p ∈ l) (hq : q ∈ l) (e : p.key = q.key) : p = q := by
  induction l with
  | nil => cases hp
  | cons x r ih =>
    obtain ⟨h1, h2⟩ := List.pairwise_cons.1 h
    rcases List.mem_cons.1 hp with e1 | hp2 <;> rcases List.mem_cons.1 hq with e2 | hq2
    · rw [e1, e2]
    · rw [e1] at e; exact absurd e (h1 q hq2)
    · rw [e2] at e; exact absurd e.symm (h1 p hp2)
    · exact ih h2 hp2 hq2
theorem getL_some {key : List UInt8} {l : List Pl} (h : Uniq l) {p : Pl} : getL key l = some p ↔ p ∈ l ∧ p.key = key := by
  refine ⟨getL_mem, fun ⟨h1, h2⟩ => ?_⟩
  cases hg : getL key l with
  | none => exact absurd h2 (getL_none.1 hg p h1)
  | some q =>
    obtain ⟨h3, h4⟩ := getL_mem hg
    rw [h.one h1 h3 (h2.trans h4.symm)]
theorem getL_ext {key : List UInt8} {l m : List Pl} (hl : Uniq l) (hm : Uniq m) (h : ∀ p, p.key = key → (p ∈ l ↔ p ∈ m)) : getL key l = getL key m := by
  cases hg : getL key l with
  | none =>
    symm
    rw [getL_none] at hg ⊢
    exact fun p hp e => hg p ((h p e).2 hp) e
  | some q =>
    symm
    obtain ⟨h3, h4⟩ := getL_mem hg
    exact (getL_some hm).2 ⟨(h q h4).1 h3, h4⟩
theorem mem_delL {key : List UInt8} {l : List Pl} {q : Pl} : q ∈ delL key l ↔ q ∈ l ∧ q.key ≠ key := by
  unfold delL
  simp
theorem mem_insL {p q : Pl} : ∀ {l : List Pl}, q ∈ insL p l ↔ q = p ∨ q ∈ l
  | [] => by simp [insL]
  | y :: r => by
    unfold insL
    split
    · rw [List.mem_cons, mem_insL (l := r), List.mem_cons]
      constructor
      · rintro (h | h | h) <;> simp [h]
      · rintro (h | h | h) <;> simp [h]
    · rw [List.mem_cons]
theorem mem_putL {p q : Pl} {l : List Pl} : q ∈ kputL p l ↔ q = p ∨ (q ∈ l ∧ q.key ≠ p.key) := by
  unfold kputL
  rw [mem_insL, mem_delL]
theorem Inc.del {l : List Pl} (h : Inc l) (key : List UInt8) : Inc (delL key l) := List.Pairwise.filter _ h
theorem Inc.ins {p : Pl} : ∀ {l : List Pl}, Inc l → (∀ q ∈ l, q.key ≠ p.key) → Inc (insL p l)
  | [], _, _ => by simp [insL, Inc]
  | y :: r, h, hne => by
    obtain ⟨h1, h2⟩ := List.pairwise_cons.1 h
    unfold insL
    split
    · rename_i hy
      refine List.pairwise_cons.2 ⟨fun q hq => ?_, Inc.ins h2 fun q hq => hne q (List.mem_cons_of_mem _ hq)⟩
      rcases mem_insL.1 hq with rfl | hq
      · exact hy
      · exact h1 q hq
    · rename_i hy
      have hyp : bytesBefore p.key y.key = true := kbef_total (by simpa using hy) (hne y (List.mem_cons_self ..))
      refine List.pairwise_cons.2 ⟨fun q hq => ?_, h⟩
      rcases List.mem_cons.1 hq with rfl | hq
      · exact hyp
      · exact kbef_trans hyp (h1 q hq)
theorem Inc.put {l : List Pl} (h : Inc l) (p : Pl) : Inc (kputL p l) := Inc.ins (h.del _) fun q hq => (mem_delL.1 hq).2
/-- Two that rise and have the same things are one. -/
theorem Inc.ext : ∀ {l m : List Pl}, Inc l → Inc m → (∀ p, p ∈ l ↔ p ∈ m) → l = m
  | [], [], _, _, _ => rfl
  | [], y :: _, _, _, h => by have := (h y).2 (List.mem_cons_self ..); cases this
  | x :: _, [], _, _, h => by have := (h x).1 (List.mem_cons_self ..); cases this
  | x :: r, y :: s, hl, hm, h => by
    obtain ⟨h1, h2⟩ := List.pairwise_cons.1 hl
    obtain ⟨k1, k2⟩ := List.pairwise_cons.1 hm
    have hxy : x = y := by
      rcases List.mem_cons.1 ((h x).1 (List.mem_cons_self ..)) with e | e
      · exact e
      · rcases List.mem_cons.1 ((h y).2 (List.mem_cons_self ..)) with e' | e'
        · exact e'.symm
        · have a := h1 y e'
          have b := k1 x e
          rw [kbef_asymm a] at b
          cases b
    subst hxy
    refine congrArg _ (Inc.ext h2 k2 fun p => ?_)
    constructor
    · intro hp
      rcases List.mem_cons.1 ((h p).1 (List.mem_cons_of_mem _ hp)) with e | e
      · have := h1 p hp; rw [e, kbef_irrefl] at this; cases this
      · exact e
    · intro hp
      rcases List.mem_cons.1 ((h p).2 (List.mem_cons_of_mem _ hp)) with e | e
      · have := k1 p hp; rw [e, kbef_irrefl] at this; cases this
      · exact e

/-! Rows of cells. -/
def cellOf (n : Nat) (key : List UInt8) : Nat := hashP key / 64 % n
def rowOf (key : List UInt8) : Nat := hashP key % 64
structure RowOk (r : Nat) (cells : List (List Pl)) : Prop where
  pos : 0 < cells.length
  fits : ∀ c l p, cells[c]? = some l → p ∈ l → rowOf p.key = r ∧ cellOf cells.length p.key = c
  uniq : ∀ l ∈ cells, Uniq l
  small : cells.length ≤ max cells.flatten.length 1
def spreadC (n : Nat) (l : List Pl) : List (List Pl) := (List.range n).map fun c => l.filter fun p => cellOf n p.key == c
theorem mem_flat {cells : List (List Pl)} {p : Pl} : p ∈ cells.flatten ↔ ∃ (c : Nat) (l : List Pl), cells[c]? = some l ∧ p ∈ l := by
  rw [List.mem_flatten]
  constructor
  · rintro ⟨l, h1, h2⟩
    obtain ⟨c, hc⟩ := List.mem_iff_getElem?.1 h1
    exact ⟨c, l, hc, h2⟩
  · rintro ⟨c, l, h1, h2⟩
    exact ⟨l, List.mem_of_getElem? h1, h2⟩
theorem spreadC_len (n : Nat) (l : List Pl) : (spreadC n l).length = n := by simp [spreadC]
theorem spreadC_get {n c : Nat} (l : List Pl) (h : c < n) : (spreadC n l)[c]? = some (l.filter fun p => cellOf n p.key == c) := by
  unfold spreadC
  rw [List.getElem?_map, List.getElem?_range h]
  rfl
theorem cellOf_lt {n : Nat} (h : 0 < n) (key : List UInt8) : cellOf n key < n := Nat.mod_lt _ h
theorem mem_spreadC {n : Nat} (h : 0 < n) {l : List Pl} {p : Pl} : p ∈ (spreadC n l).flatten ↔ p ∈ l := by
  rw [mem_flat]
  constructor
  · rintro ⟨c, x, h1, h2⟩
    have hc : c < n := by rw [← spreadC_len n l]; exact (List.getElem?_eq_some_iff.1 h1).1
    rw [spreadC_get l hc] at h1
    injection h1 with h1
    subst h1
    exact (List.mem_filter.1 h2).1
  · intro hp
    exact ⟨_, _, spreadC_get l (cellOf_lt h p.key), List.mem_filter.2 ⟨hp, by simp⟩⟩
theorem RowOk.uniqF {r : Nat} {cells : List (List Pl)} (h : RowOk r cells) : Uniq cells.flatten := by
  unfold Uniq
  rw [List.pairwise_flatten]
  refine ⟨h.uniq, ?_⟩
  rw [List.pairwise_iff_getElem]
  intro i j hi hj hij x hx y hy e
  have h1 := (h.fits i _ x (List.getElem?_eq_getElem hi) hx).2
  have h2 := (h.fits j _ y (List.getElem?_eq_getElem hj) hy).2
  rw [e] at h1
  omega
theorem uniq_len {l m : List Pl} (hl : Uniq l) (hm : Uniq m) (h : ∀ p, p ∈ l ↔ p ∈ m) : l.length = m.length := ((List.perm_ext_iff_of_nodup hl.nodup hm.nodup).2 h).length_eq
theorem RowOk.spread {r n : Nat} {l : List Pl} (hu : Uniq l) (hr : ∀ p ∈ l, rowOf p.key = r) (hn : 0 < n) (hs : n ≤ max l.length 1) : RowOk r (spreadC n l) ∧ (spreadC n l).flatten.length = l.length := by
  have h0 : ∀ c x p, (spreadC n l)[c]? = some x → p ∈ x → rowOf p.key = r ∧ cellOf (spreadC n l).length p.key = c := by
    intro c x p h1 h2
    have hc : c < n := by rw [← spreadC_len n l]; exact (List.getElem?_eq_some_iff.1 h1).1
    rw [spreadC_get l hc] at h1
    injection h1 with h1
    subst h1
    obtain ⟨h3, h4⟩ := List.mem_filter.1 h2
    rw [spreadC_len]
    exact ⟨hr p h3, by simpa using h4⟩
  have h1 : ∀ x ∈ spreadC n l, Uniq x := by
    intro x hx
    obtain ⟨c, _, rfl⟩ := List.mem_map.1 hx
    exact List.Pairwise.filter _ hu
  have hU : Uniq (spreadC n l).flatten := by
    unfold Uniq
    rw [List.pairwise_flatten]
    refine ⟨h1, ?_⟩
    rw [List.pairwise_iff_getElem]
    intro i j hi hj hij x hx y hy e
    have h1 := (h0 i _ x (List.getElem?_eq_getElem hi) hx).2
    have h2 := (h0 j _ y (List.getElem?_eq_getElem hj) hy).2
    rw [e] at h1
    omega
  have hl := uniq_len hU hu fun p => mem_spreadC hn
  refine ⟨⟨by rw [spreadC_len]; exact hn, h0, h1, by rw [hl, spreadC_len]; exact hs⟩, hl⟩
def fitC (cells : List (List Pl)) : List (List Pl) :=
  if 4 * cells.length < cells.flatten.length then spreadC (2 * cells.length) cells.flatten
  else if cells.flatten.length < cells.length ∧ 1 < cells.length then spreadC (cells.length / 2) cells.flatten
  else cells
/-- What a row must be for its fitting. -/
structure RowPre (r : Nat) (cells : List (List Pl)) : Prop where
  pos : 0 < cells.length
  fits : ∀ c l p, cells[c]? = some l → p ∈ l → rowOf p.key = r ∧ cellOf cells.length p.key = c
  uniq : ∀ l ∈ cells, Uniq l
  small : cells.length ≤ cells.flatten.length + 1
theorem RowPre.uniqF {r : Nat} {cells : List (List Pl)} (h : RowPre r cells) : Uniq cells.flatten := by
  unfold Uniq
  rw [List.pairwise_flatten]
  refine ⟨h.uniq, ?_⟩
  rw [List.pairwise_iff_getElem]
  intro i j hi hj hij x hx y hy e
  have h1 := (h.fits i _ x (List.getElem?_eq_getElem hi) hx).2
  have h2 := (h.fits j _ y (List.getElem?_eq_getElem hj) hy).2
  rw [e] at h1
  omega
theorem RowPre.rowF {r : Nat} {cells : List (List Pl)} (h : RowPre r cells) : ∀ p ∈ cells.flatten, rowOf p.key = r := by
  intro p hp
  obtain ⟨c, l, h1, h2⟩ := mem_flat.1 hp
  exact (h.fits c l p h1 h2).1
theorem fitC_ok {r : Nat} {cells : List (List Pl)} (h : RowPre r cells) : RowOk r (fitC cells) ∧ (∀ p, p ∈ (fitC cells).flatten ↔ p ∈ cells.flatten) ∧ (fitC cells).flatten.length = cells.flatten.length := by
  have hu := h.uniqF
  have hr := h.rowF
  have hs := h.small
  have hp := h.pos
  unfold fitC
  split
  · rename_i h1
    have k := RowOk.spread (r := r) (n := 2 * cells.length) hu hr (by omega) (by omega)
    exact ⟨k.1, fun p => mem_spreadC (by omega), k.2⟩
  · split
    · rename_i h1 h2
      have k := RowOk.spread (r := r) (n := cells.length / 2) hu hr (by omega) (by omega)
      exact ⟨k.1, fun p => mem_spreadC (by omega), k.2⟩
    · exact ⟨⟨h.pos, h.fits, h.uniq, by omega⟩, fun p => Iff.rfl, rfl⟩
/-- Where a key's place stands in a cell. -/
def idx (key : List UInt8) (l : List Pl) : Option Nat := l.findIdx? fun p => p.key == key
theorem idx_none {key : List UInt8} {l : List Pl} : idx key l = none ↔ ∀ p ∈ l, p.key ≠ key := by
  unfold idx
  rw [List.findIdx?_eq_none_iff]
  simp
theorem idx_some {key : List UInt8} {l : List Pl} {i : Nat} (h : idx key l = some i) : ∃ p, l[i]? = some p ∧ p.key = key ∧ i < l.length := by
  unfold idx at h
  obtain ⟨h1, h2, _⟩ := List.findIdx?_eq_some_iff_getElem.1 h
  exact ⟨l[i], List.getElem?_eq_getElem h1, by simpa using h2, h1⟩
theorem mem_set_uniq {l : List Pl} (hu : Uniq l) {i : Nat} {p o q : Pl} (ho : l[i]? = some o) (he : o.key = p.key) : q ∈ l.set i p ↔ q = p ∨ (q ∈ l ∧ q.key ≠ p.key) := by
  have hi := (List.getElem?_eq_some_iff.1 ho).1
  constructor
  · intro h
    obtain ⟨j, hj⟩ := List.mem_iff_getElem?.1 h
    rw [List.getElem?_set] at hj
    split at hj
    · rename_i hij
      exact .inl (Option.some.inj hj).symm
    · rename_i hij
      refine .inr ⟨List.mem_of_getElem? hj, fun e => ?_⟩
      have hjl := (List.getElem?_eq_some_iff.1 hj).1
      have h1 := List.pairwise_iff_getElem.1 hu
      have e1 : l[i] = o := (List.getElem?_eq_some_iff.1 ho).2
      have e2 : l[j] = q := (List.getElem?_eq_some_iff.1 hj).2
      rcases Nat.lt_or_gt_of_ne hij with hlt | hlt
      · have := h1 i j hi hjl hlt
        rw [e1, e2] at this
        exact this (he.trans e.symm)
      · have := h1 j i hjl hi hlt
        rw [e1, e2] at this
        exact this (e.trans he.symm)
  · rintro (rfl | ⟨h1, h2⟩)
    · exact List.mem_iff_getElem?.2 ⟨i, by rw [List.getElem?_set]; simp [hi]⟩
    · obtain ⟨j, hj⟩ := List.mem_iff_getElem?.1 h1
      refine List.mem_iff_getElem?.2 ⟨j, ?_⟩
      rw [List.getElem?_set, if_neg, hj]
      intro e
      subst e
      rw [ho] at hj
      injection hj with hj
      subst hj
      exact h2 he
theorem mem_erase_uniq {l : List Pl} (hu : Uniq l) {i : Nat} {o q : Pl} (ho : l[i]? = some o) : q ∈ l.eraseIdx i ↔ q ∈ l ∧ q.key ≠ o.key := by
  have hi := (List.getElem?_eq_some_iff.1 ho).1
  have e1 : l[i] = o := (List.getElem?_eq_some_iff.1 ho).2
  have h1 := List.pairwise_iff_getElem.1 hu
  rw [List.mem_eraseIdx_iff_getElem?]
  constructor
  · rintro ⟨j, hne, hj⟩
    refine ⟨List.mem_of_getElem? hj, fun e => ?_⟩
    have hjl := (List.getElem?_eq_some_iff.1 hj).1
    have e2 : l[j] = q := (List.getElem?_eq_some_iff.1 hj).2
    rcases Nat.lt_or_gt_of_ne hne with hlt | hlt
    · have := h1 j i hjl hi hlt
      rw [e1, e2] at this
      exact this e
    · have := h1 i j hi hjl hlt
      rw [e1, e2] at this
      exact this e.symm
  · rintro ⟨h2, h3⟩
    obtain ⟨j, hj⟩ := List.mem_iff_getElem?.1 h2
    refine ⟨j, fun e => ?_, hj⟩
    subst e
    rw [ho] at hj
    injection hj with hj
    subst hj
    exact h3 rfl
def kputR (p : Pl) (cells : List (List Pl)) : List (List Pl) :=
  match idx p.key (cells.getD (cellOf cells.length p.key) []) with
  | some i => cells.set (cellOf cells.length p.key) ((cells.getD (cellOf cells.length p.key) []).set i p)
  | none => fitC (cells.set (cellOf cells.length p.key) (cells.getD (cellOf cells.length p.key) [] ++ [p]))
def delR (key : List UInt8) (cells : List (List Pl)) : List (List Pl) :=
  match idx key (cells.getD (cellOf cells.length key) []) with
  | some i => fitC (cells.set (cellOf cells.length key) ((cells.getD (cellOf cells.length key) []).eraseIdx i))
  | none => cells
section
variable {r : Nat} {cells : List (List Pl)}
theorem RowOk.cell (h : RowOk r cells) (key : List UInt8) : ∃ l, cells[cellOf cells.length key]? = some l ∧ cells.getD (cellOf cells.length key) [] = l ∧ Uniq l ∧ ∀ p, p.key = key → (p ∈ l ↔ p ∈ cells.flatten) := by
  have hc := cellOf_lt h.pos key
  refine ⟨cells[cellOf cells.length key], List.getElem?_eq_getElem hc, by simp [hc], h.uniq _ (List.getElem_mem hc), fun p hp => ?_⟩
  constructor
  · exact fun hm => List.mem_flatten.2 ⟨_, List.getElem_mem hc, hm⟩
  · intro hm
    obtain ⟨c, l, h1, h2⟩ := mem_flat.1 hm
    have := (h.fits c l p h1 h2).2
    rw [hp] at this
    subst this
    rw [List.getElem?_eq_getElem hc] at h1
    injection h1 with h1
    rw [h1]
    exact h2
theorem RowOk.get (h : RowOk r cells) (key : List UInt8) : getL key (cells.getD (cellOf cells.length key) []) = getL key cells.flatten := by
  obtain ⟨l, _, h2, h3, h4⟩ := h.cell key
  rw [h2]
  exact getL_ext h3 h.uniqF h4
/-- A cell that is turned. -/
theorem RowOk.turn (h : RowOk r cells) {c : Nat} {l m : List Pl} (hl : cells[c]? = some l) (hm : Uniq m) (hf : ∀ p ∈ m, rowOf p.key = r ∧ cellOf cells.length p.key = c) :
    (∀ c' l' p, (cells.set c m)[c']? = some l' → p ∈ l' → rowOf p.key = r ∧ cellOf (cells.set c m).length p.key = c') ∧ (∀ l' ∈ cells.set c m, Uniq l') ∧
    (∀ q, q ∈ (cells.set c m).flatten ↔ q ∈ m ∨ (q ∈ cells.flatten ∧ q ∉ l)) := by
  have hc := (List.getElem?_eq_some_iff.1 hl).1
  refine ⟨?_, ?_, ?_⟩
  · intro c' l' p h1 h2
    rw [List.length_set]
    rw [List.getElem?_set] at h1
    split at h1
    · rename_i e
      subst e
      injection h1 with h1
      subst h1
      exact hf p h2
    · exact h.fits c' l' p h1 h2
  · intro l' hl'
    rcases List.mem_or_eq_of_mem_set hl' with h1 | rfl
    · exact h.uniq l' h1
    · exact hm
  · intro q
    rw [mem_flat, mem_flat]
    constructor
    · rintro ⟨c', l', h1, h2⟩
      rw [List.getElem?_set] at h1
      split at h1
      · rename_i e
        subst e
        injection h1 with h1
        subst h1
        exact .inl h2
      · rename_i e
        refine .inr ⟨⟨c', l', h1, h2⟩, fun hq => e ?_⟩
        rw [← (h.fits c l q hl hq).2, ← (h.fits c' l' q h1 h2).2]
    · rintro (h1 | ⟨⟨c', l', h1, h2⟩, h3⟩)
      · exact ⟨c, m, by rw [List.getElem?_set]; simp [hc], h1⟩
      · refine ⟨c', l', ?_, h2⟩
        rw [List.getElem?_set, if_neg, h1]
        intro e
        subst e
        rw [hl] at h1
        injection h1 with h1
        subst h1
        exact h3 h2
theorem set_flat_len {cells : List (List Pl)} : ∀ {c : Nat} {l m : List Pl}, cells[c]? = some l → (cells.set c m).flatten.length + l.length = cells.flatten.length + m.length := by
  induction cells with
  | nil => intro c l m h; simp at h
  | cons x xs ih =>
    intro c l m h
    cases c with
    | zero =>
      simp at h
      subst h
      simp
      omega
    | succ c =>
      simp only [List.getElem?_cons_succ] at h
      have := ih (m := m) h
      simp only [List.set_cons_succ, List.flatten_cons, List.length_append]
      omega
theorem RowOk.put (h : RowOk r cells) (p : Pl) (hp : rowOf p.key = r) :
    RowOk r (kputR p cells) ∧ (∀ q, q ∈ (kputR p cells).flatten ↔ q = p ∨ (q ∈ cells.flatten ∧ q.key ≠ p.key)) ∧ (idx p.key (cells.getD (cellOf cells.length p.key) []) = none → (RowPre r (cells.set (cellOf cells.length p.key) (cells.getD (cellOf cells.length p.key) [] ++ [p])))) := by
  obtain ⟨l, h1, h2, h3, h4⟩ := h.cell p.key
  unfold kputR
  rw [h2]
  cases hi : idx p.key l with
  | some i =>
    dsimp only
    obtain ⟨o, ho, hok, _⟩ := idx_some hi
    have hm := fun q => mem_set_uniq (q := q) h3 ho hok
    have hu : Uniq (l.set i p) := by
      unfold Uniq
      rw [List.pairwise_iff_getElem]
      intro a b ha hb hab
      rw [List.length_set] at ha hb
      have k := List.pairwise_iff_getElem.1 h3
      have eo : ∀ (hil : i < l.length), l[i].key = p.key := fun hil => by rw [(List.getElem?_eq_some_iff.1 ho).2]; exact hok
      rw [List.getElem_set, List.getElem_set]
      split
      · rename_i e; subst e
        rw [if_neg (by omega)]
        have := k i b ha hb hab
        rw [eo ha] at this
        exact this
      · split
        · rename_i e; subst e
          have := k a i ha hb hab
          rw [eo hb] at this
          exact this
        · exact k a b ha hb hab
    obtain ⟨k1, k2, k3⟩ := h.turn h1 hu (fun q hq => by
      rcases (hm q).1 hq with rfl | ⟨hq, _⟩
      · exact ⟨hp, rfl⟩
      · exact h.fits _ l q h1 hq)
    have kl := set_flat_len (m := l.set i p) h1
    rw [List.length_set] at kl
    refine ⟨⟨by rw [List.length_set]; exact h.pos, k1, k2, ?_⟩, fun q => ?_, fun e => by cases e⟩
    · have := h.small
      rw [List.length_set]
      omega
    · rw [k3, hm]
      constructor
      · rintro ((rfl | ⟨a, b⟩) | ⟨a, b⟩)
        · exact .inl rfl
        · exact .inr ⟨List.mem_flatten.2 ⟨l, List.mem_of_getElem? h1, a⟩, b⟩
        · exact .inr ⟨a, fun e => b ((h4 q e).2 a)⟩
      · rintro (rfl | ⟨a, b⟩)
        · exact .inl (.inl rfl)
        · by_cases hq : q ∈ l
          · exact .inl (.inr ⟨hq, b⟩)
          · exact .inr ⟨a, hq⟩
  | none =>
    dsimp only
    have hn := idx_none.1 hi
    have hu : Uniq (l ++ [p]) := by
      unfold Uniq
      rw [List.pairwise_append]
      refine ⟨h3, by simp, fun a ha b hb => ?_⟩
      have : b = p := by simpa using hb
      subst this
      exact hn a ha
    obtain ⟨k1, k2, k3⟩ := h.turn h1 hu (fun q hq => by
      rcases List.mem_append.1 hq with hq | hq
      · exact h.fits _ l q h1 hq
      · have : q = p := by simpa using hq
        subst this
        exact ⟨hp, rfl⟩)
    have kl := set_flat_len (m := l ++ [p]) h1
    rw [List.length_append] at kl
    simp only [List.length_cons, List.length_nil] at kl
    have hpre : RowPre r (cells.set (cellOf cells.length p.key) (l ++ [p])) := ⟨by rw [List.length_set]; exact h.pos, k1, k2, by have := h.small; rw [List.length_set]; omega⟩
    obtain ⟨f1, f2, _⟩ := fitC_ok hpre
    refine ⟨f1, fun q => ?_, fun _ => hpre⟩
    rw [f2, k3]
    constructor
    · rintro (a | ⟨a, b⟩)
      · rcases List.mem_append.1 a with a | a
        · exact .inr ⟨List.mem_flatten.2 ⟨l, List.mem_of_getElem? h1, a⟩, hn q a⟩
        · exact .inl (by simpa using a)
      · exact .inr ⟨a, fun e => b ((h4 q e).2 a)⟩
    · rintro (rfl | ⟨a, b⟩)
      · exact .inl (by simp)
      · by_cases hq : q ∈ l
        · exact .inl (by simp [hq])
        · exact .inr ⟨a, hq⟩
theorem RowOk.del (h : RowOk r cells) (key : List UInt8) :
    RowOk r (delR key cells) ∧ (∀ q, q ∈ (delR key cells).flatten ↔ q ∈ cells.flatten ∧ q.key ≠ key) ∧ (∀ i, idx key (cells.getD (cellOf cells.length key) []) = some i → RowPre r (cells.set (cellOf cells.length key) ((cells.getD (cellOf cells.length key) []).eraseIdx i))) := by
  obtain ⟨l, h1, h2, h3, h4⟩ := h.cell key
  unfold delR
  rw [h2]
  cases hi : idx key l with
  | none =>
    dsimp only
    have hn := idx_none.1 hi
    refine ⟨h, fun q => ⟨fun a => ⟨a, fun e => hn q ((h4 q e).2 a) e⟩, fun a => a.1⟩, fun i e => by cases e⟩
  | some i =>
    dsimp only
    obtain ⟨o, ho, hok, hil⟩ := idx_some hi
    have hm := fun q => mem_erase_uniq (q := q) h3 ho
    rw [hok] at hm
    have hu : Uniq (l.eraseIdx i) := List.Pairwise.sublist (List.eraseIdx_sublist _ _) h3
    obtain ⟨k1, k2, k3⟩ := h.turn h1 hu (fun q hq => h.fits _ l q h1 ((hm q).1 hq).1)
    have kl := set_flat_len (m := l.eraseIdx i) h1
    rw [List.length_eraseIdx, if_pos hil] at kl
    have hpre : RowPre r (cells.set (cellOf cells.length key) (l.eraseIdx i)) := ⟨by rw [List.length_set]; exact h.pos, k1, k2, by have := h.small; rw [List.length_set]; omega⟩
    obtain ⟨f1, f2, _⟩ := fitC_ok hpre
    refine ⟨f1, fun q => ?_, fun j e => by injection e with e; subst e; exact hpre⟩
    rw [f2, k3, hm]
    constructor
    · rintro (⟨a, b⟩ | ⟨a, b⟩)
      · exact ⟨List.mem_flatten.2 ⟨l, List.mem_of_getElem? h1, a⟩, b⟩
      · exact ⟨a, fun e => b ((h4 q e).2 a)⟩
    · rintro ⟨a, b⟩
      by_cases hq : q ∈ l
      · exact .inl ⟨hq, b⟩
      · exact .inr ⟨a, hq⟩
end

/-! All rows. -/
abbrev Rows := Nat → List (List Pl)
def flatR (R : Rows) : List Pl := (List.range 64).flatMap fun r => (R r).flatten
def Rows.put (R : Rows) (r : Nat) (c : List (List Pl)) : Rows := fun k => if k = r then c else R k
structure KsOk (R : Rows) (L : List Pl) : Prop where
  inc : Inc L
  row : ∀ r, r < 64 → RowOk r (R r)
  mem : ∀ p, p ∈ L ↔ p ∈ (R (rowOf p.key)).flatten
theorem rowOf_lt (key : List UInt8) : rowOf key < 64 := Nat.mod_lt _ (by omega)
theorem RowOk.at {r : Nat} {cells : List (List Pl)} (h : RowOk r cells) {p : Pl} (hp : p ∈ cells.flatten) : rowOf p.key = r := by
  obtain ⟨c, l, h1, h2⟩ := mem_flat.1 hp
  exact (h.fits c l p h1 h2).1
theorem mem_flatR {R : Rows} {p : Pl} : p ∈ flatR R ↔ ∃ r, r < 64 ∧ p ∈ (R r).flatten := by
  unfold flatR
  rw [List.mem_flatMap]
  constructor
  · rintro ⟨r, h1, h2⟩; exact ⟨r, List.mem_range.1 h1, h2⟩
  · rintro ⟨r, h1, h2⟩; exact ⟨r, List.mem_range.2 h1, h2⟩
theorem KsOk.perm {R : Rows} {L : List Pl} (h : KsOk R L) : (flatR R).Perm L := by
  have hU : Uniq (flatR R) := by
    unfold Uniq flatR
    rw [List.pairwise_flatMap]
    refine ⟨fun r hr => (h.row r (List.mem_range.1 hr)).uniqF, ?_⟩
    rw [List.pairwise_iff_getElem]
    intro i j hi hj hij x hx y hy e
    simp only [List.length_range] at hi hj
    simp only [List.getElem_range] at hx hy
    have h1 := (h.row i hi).at hx
    have h2 := (h.row j hj).at hy
    rw [e] at h1
    omega
  refine (List.perm_ext_iff_of_nodup hU.nodup h.inc.uniq.nodup).2 fun p => ?_
  rw [h.mem, mem_flatR]
  constructor
  · rintro ⟨r, h1, h2⟩
    rw [(h.row r h1).at h2]
    exact h2
  · intro hp
    exact ⟨_, rowOf_lt _, hp⟩
theorem KsOk.get {R : Rows} {L : List Pl} (h : KsOk R L) (key : List UInt8) : getL key ((R (rowOf key)).getD (cellOf (R (rowOf key)).length key) []) = getL key L := by
  rw [(h.row _ (rowOf_lt key)).get]
  refine getL_ext (h.row _ (rowOf_lt key)).uniqF h.inc.uniq fun p hp => ?_
  rw [h.mem, hp]
theorem KsOk.put {R : Rows} {L : List Pl} (h : KsOk R L) (p : Pl) : KsOk (R.put (rowOf p.key) (kputR p (R (rowOf p.key)))) (kputL p L) := by
  obtain ⟨h1, h2, _⟩ := (h.row _ (rowOf_lt p.key)).put p rfl
  refine ⟨h.inc.put p, fun r hr => ?_, fun q => ?_⟩
  · unfold Rows.put
    split
    · rename_i e; subst e; exact h1
    · exact h.row r hr
  · rw [mem_putL, h.mem]
    unfold Rows.put
    split
    · rename_i e
      rw [h2, e]
    · rename_i e
      constructor
      · rintro (rfl | ⟨a, _⟩)
        · exact absurd rfl e
        · exact a
      · intro a
        exact .inr ⟨a, fun e' => e (by rw [e'])⟩
theorem KsOk.del {R : Rows} {L : List Pl} (h : KsOk R L) (key : List UInt8) : KsOk (R.put (rowOf key) (delR key (R (rowOf key)))) (delL key L) := by
  obtain ⟨h1, h2, _⟩ := (h.row _ (rowOf_lt key)).del key
  refine ⟨h.inc.del key, fun r hr => ?_, fun q => ?_⟩
  · unfold Rows.put
    split
    · rename_i e; subst e; exact h1
    · exact h.row r hr
  · rw [mem_delL, h.mem]
    unfold Rows.put
    split
    · rename_i e
      rw [h2, e]
    · rename_i e
      constructor
      · rintro ⟨a, _⟩; exact a
      · intro a; exact ⟨a, fun e' => e (by rw [e'])⟩
theorem KsOk.new : KsOk (fun _ => [[]]) [] :=
  ⟨List.Pairwise.nil, fun r hr => ⟨by simp, fun c l p h1 h2 => by
    cases c with
    | zero => simp at h1; subst h1; cases h2
    | succ c => simp at h1, fun l hl => by simp at hl; subst hl; exact List.Pairwise.nil, by simp⟩, fun p => by simp⟩
theorem KsOk.rowLe {R : Rows} {L : List Pl} (h : KsOk R L) {r : Nat} (hr : r < 64) : (R r).flatten.length ≤ L.length := by
  rw [← h.perm.length_eq]
  unfold flatR
  rw [List.length_flatMap]
  have : ∀ (ns : List Nat) (n : Nat), n ∈ ns → n ≤ ns.sum := by
    intro ns
    induction ns with
    | nil => intro n hn; cases hn
    | cons b bs ih =>
      intro n hn
      rw [List.sum_cons]
      rcases List.mem_cons.1 hn with rfl | hn
      · omega
      · have := ih n hn; omega
  exact this _ _ (List.mem_map.2 ⟨r, List.mem_range.2 hr, rfl⟩)
theorem KsOk.cellsLe {R : Rows} {L : List Pl} (h : KsOk R L) {r : Nat} (hr : r < 64) : (R r).length ≤ L.length + 1 := by
  have h1 := (h.row r hr).small
  have h2 := h.rowLe hr
  omega
theorem putL_len (p : Pl) (l : List Pl) : (kputL p l).length ≤ l.length + 1 := by
  have h1 : ∀ l : List Pl, (insL p l).length = l.length + 1 := by
    intro l
    induction l with
    | nil => rfl
    | cons y r ih =>
      unfold insL
      split
      · simp [ih]
      · simp
  unfold kputL
  rw [h1]
  have : (delL p.key l).length ≤ l.length := List.length_filter_le _ _
  omega
theorem delL_len (key : List UInt8) (l : List Pl) : (delL key l).length ≤ l.length := List.length_filter_le _ _
end Go.Proofs.Ytadgbobemmfjoaa
