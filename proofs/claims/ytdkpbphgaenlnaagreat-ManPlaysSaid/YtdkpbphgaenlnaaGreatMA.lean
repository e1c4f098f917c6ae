/-
  Texts that the statements' proofs lean on, one behind the other.
-/
import Derived.Test.YtdkpbphgaenlnaaGreatDkPlain
import Derived.Test.YtdkpbphgaenlnaaGreatRange
import Derived.Test.YtdkpbphgaenlnaaGreatSteps
import Derived.Test.YtdkpbphgaenlnaaGreatMark
import Derived.Lib.Hide
import Derived.KernelRfl
import Derived.Test.YtdkpbphgaenlnaaGreatLists
/-
  A disk of package disk in memory: its own block, two maps, a row of functions, its files.
-/
namespace Go.Proofs.YtdkpbphgaenlnaaGreat
open Go.RowKit Go.Maps
open Go.WideElems (Fit rd rg pl rd_val elemAt)
set_option linter.unusedVariables false
set_option linter.unusedSimpArgs false

/-- A row stays where its block does. -/
theorem row_same {w w' : World} {base : Nat} {e : TypeId} {size : Nat} {v : Value} {n : Nat} {xs : List Value} (h : w.ownsRow base e size v n xs) (hk : ∀ k, v.ownBlock = some k → w'.heap[k]? = w.heap[k]?) : w'.ownsRow base e size v n xs := by
  obtain ⟨h1, h2⟩ := h
  refine ⟨h1, ?_⟩
  rcases h2 with h2 | ⟨g, cap, cur, rfl, hb, hh, r⟩
  · exact .inl h2
  · exact .inr ⟨g, cap, cur, rfl, hb, (hk g rfl).trans hh, r⟩
theorem row_block {w : World} {base : Nat} {e : TypeId} {size : Nat} {v : Value} {n : Nat} {xs : List Value} (h : w.ownsRow base e size v n xs) {k : Nat} (hk : v.ownBlock = some k) : ∃ cur, w.heap[k]? = some (.cells cur e (0, 0)) := by
  rcases h.2 with ⟨rfl, _⟩ | ⟨g, cap, cur, rfl, hb, hh, r⟩
  · simp [Value.ownBlock] at hk
  · obtain rfl : g = k := by simpa [Value.ownBlock] using hk
    exact ⟨cur, hh⟩

section
variable {H : Type} {P : Program} {k : TypeId} {R R' : Value → Option (DataW H × List MemPlace)} {w w' : World} {b n : Nat} {D : DataW H}
theorem map_same (h : w.ownsMap P k R b n D) (e : w'.heap[b]? = w.heap[b]?) : w'.ownsMap P k R b n D := by
  obtain ⟨es, clock, hb, r⟩ := h
  exact ⟨es, clock, e.trans hb, r⟩
theorem map_block (h : w.ownsMap P k R b n D) : ∃ es clock, w.heap[b]? = some (.map es clock) := by
  obtain ⟨es, clock, hb, _⟩ := h
  exact ⟨es, clock, hb⟩
/-- No more entries than there are. -/
theorem map_tight (h : w.ownsMap P k R b n D) : w.ownsMap P k R b (Maps.size D) D := by
  obtain ⟨es, clock, hb, F, hs, rfl⟩ := h
  refine ⟨es, clock, hb, F, ?_, rfl⟩
  simp [Maps.size, length_sorted]
theorem map_reader (h : w.ownsMap P k R b n D) (hR : ∀ v z, R v = some z → R' v = some z) : w.ownsMap P k R' b n D := by
  obtain ⟨es, clock, hb, F, hs, rfl⟩ := h
  obtain ⟨F1, hmap, _⟩ := F.stay (R' := R') fun x _ z hz => hR _ _ hz
  exact ⟨es, clock, hb, F1, hs, by rw [hmap]⟩
end

/-- How a file's pointer reads: by the number of its making. -/
def ptrR (made : Nat) (loc : Nat → Nat) : Value → Option (DataW Unit × List MemPlace)
  | .pointer none => some (.lit (.int .i64 (-1)), [])
  | .pointer (some ⟨b, 0, none⟩) => ((List.range made).find? fun i => loc i == b).map fun (i : Nat) => (.lit (.int .i64 (i : Int)), [])
  | _ => none
theorem ptrR_nil (made : Nat) (loc : Nat → Nat) : ptrR made loc (.pointer none) = some (.lit (.int .i64 (-1)), []) := rfl
theorem ptrR_mk {made : Nat} {loc : Nat → Nat} (hinj : ∀ i j, i < made → j < made → loc i = loc j → i = j) {i : Nat} (hi : i < made) : ptrR made loc (.pointer (some ⟨loc i, 0, none⟩)) = some (.lit (.int .i64 (i : Int)), []) := by
  unfold ptrR
  cases h : (List.range made).find? fun j => loc j == loc i with
  | none => simpa using (List.find?_eq_none.1 h) i (List.mem_range.2 hi)
  | some j =>
    have h1 := List.find?_some h
    have h2 := List.mem_range.1 (List.mem_of_find?_eq_some h)
    obtain rfl := hinj j i h2 hi (by simpa using h1)
    simp only [h]
    rfl
theorem ptrR_inv {made : Nat} {loc : Nat → Nat} {v : Value} {z : DataW Unit × List MemPlace} (h : ptrR made loc v = some z) :
    (v = .pointer none ∧ z = (.lit (.int .i64 (-1)), [])) ∨ ∃ i, i < made ∧ v = .pointer (some ⟨loc i, 0, none⟩) ∧ z = (.lit (.int .i64 (i : Int)), []) := by
  unfold ptrR at h
  split at h
  · cases h; exact .inl ⟨rfl, rfl⟩
  · rename_i b
    cases hf : (List.range made).find? fun i => loc i == b with
    | none => rw [hf] at h; cases h
    | some i =>
      rw [hf] at h
      cases h
      have h1 := List.find?_some hf
      have h2 := List.mem_range.1 (List.mem_of_find?_eq_some hf)
      have h3 : loc i = b := by simpa using h1
      exact .inr ⟨i, h2, by rw [h3], rfl⟩
  · cases h
theorem ptrR_more {made made' : Nat} {loc loc' : Nat → Nat} (hinj : ∀ i j, i < made' → j < made' → loc' i = loc' j → i = j) (hm : made ≤ made') (hl : ∀ i, i < made → loc' i = loc i) (v : Value) (z : DataW Unit × List MemPlace) (h : ptrR made loc v = some z) : ptrR made' loc' v = some z := by
  rcases ptrR_inv h with ⟨rfl, rfl⟩ | ⟨i, hi, rfl, rfl⟩
  · rfl
  · rw [← hl i hi]
    exact ptrR_mk hinj (by omega)

/-- Where a disk has its things. -/
structure Geo where
  nb : Nat
  kb : Nat
  pv : Value
  pvs : List Value
  loc : Nat → Nat
  row : Nat → Value

def strB (n : Nm) : Value := .string ⟨n.toArray⟩
def ptrV (b : Nat) : Value := .pointer (some ⟨b, 0, none⟩)

/-- A function that is a change. -/
def ChAt (w : World) (own : Nat → Prop) (made : Nat) (loc : Nat → Nat) (v : Value) : Ch → Prop
  | .made n f => n.length ≤ maxLen ∧ f < made ∧ ∃ a b, v = .func (.func 115) #[] #[ptrV b, ptrV a] ∧ own a ∧ own b ∧ Whole w b 89 #[ptrV (loc f)] ∧ Whole w a 9 #[strB n]
  | .moved n to => n.length ≤ maxLen ∧ to.length ≤ maxLen ∧ ∃ a b, v = .func (.func 144) #[] #[ptrV a, ptrV b] ∧ own a ∧ own b ∧ Whole w a 9 #[strB n] ∧ Whole w b 9 #[strB to]
  | .taken n => n.length ≤ maxLen ∧ ∃ a, v = .func (.func 164) #[] #[ptrV a] ∧ own a ∧ Whole w a 9 #[strB n]
theorem ChAt.stay {w w' : World} {own own' : Nat → Prop} {made made' : Nat} {loc loc' : Nat → Nat} {v : Value} {c : Ch} (h : ChAt w own made loc v c) (ho : ∀ k, own k → own' k) (hm : made ≤ made') (hl : ∀ i, i < made → loc' i = loc i)
    (hs : ∀ k, own k → (∀ cs t, w.heap[k]? = some (.cells cs t (0, 0)) → t = 89 ∨ t = 9 → w'.heap[k]? = w.heap[k]?)) : ChAt w' own' made' loc' v c := by
  cases c with
  | made n f =>
    obtain ⟨h1, h2, a, b, h3, h4, h5, h6, h7⟩ := h
    exact ⟨h1, by omega, a, b, h3, ho _ h4, ho _ h5, by rw [hl f h2]; exact h6.same (hs b h5 _ _ h6 (.inl rfl)), h7.same (hs a h4 _ _ h7 (.inr rfl))⟩
  | moved n to =>
    obtain ⟨h1, h2, a, b, h3, h4, h5, h6, h7⟩ := h
    exact ⟨h1, h2, a, b, h3, ho _ h4, ho _ h5, h6.same (hs a h4 _ _ h6 (.inr rfl)), h7.same (hs b h5 _ _ h7 (.inr rfl))⟩
  | taken n =>
    obtain ⟨h1, a, h3, h4, h6⟩ := h
    exact ⟨h1, a, h3, ho _ h4, h6.same (hs a h4 _ _ h6 (.inr rfl))⟩

abbrev OwnsDir (w : World) (made : Nat) (loc : Nat → Nat) (b : Nat) (l : Dir) : Prop := w.ownsMap Tryz.prog 9 (ptrR made loc) b l.length (encD l)

/-- All that a disk has, but for its own block. -/
structure DkRest (w : World) (own : Nat → Prop) (G : Geo) (m : Dk) : Prop where
  lt : ∀ k, own k → k < w.heap.size
  names : OwnsDir w m.made G.loc G.nb m.names
  on : own G.nb
  kept : OwnsDir w m.made G.loc G.kb m.kept
  ok : own G.kb
  nk : G.nb ≠ G.kb
  pend : w.ownsRow 0 108 1 G.pv m.pend.length G.pvs
  op : ∀ k, G.pv.ownBlock = some k → own k
  chs : ∀ (i : Nat) v c, G.pvs[i]? = some v → m.pend[i]? = some c → ChAt w own m.made G.loc v c
  inj : ∀ i j, i < m.made → j < m.made → G.loc i = G.loc j → i = j
  cells : ∀ i, i < m.made → Whole w (G.loc i) 92 #[.int .i64 (i : Int), G.row i, .int .i64 ((m.files i).kept : Int)]
  ol : ∀ i, i < m.made → own (G.loc i)
  rows : ∀ i, i < m.made → w.ownsRow 0 5 1 (G.row i) (m.files i).bytes.length ((m.files i).bytes.map byteV)
  or : ∀ i k, i < m.made → (G.row i).ownBlock = some k → own k
  apart : ∀ i j k, i < m.made → j < m.made → (G.row i).ownBlock = some k → (G.row j).ownBlock = some k → i = j

section
variable {w w' : World} {own own' : Nat → Prop} {G : Geo} {m m' : Dk}

theorem DkRest.nlen (h : DkRest w own G m) : G.pvs.length = m.pend.length := by have := h.pend.1; omega

theorem DkRest.stay (h : DkRest w own G m) (hs : ∀ k, own k → w'.heap[k]? = w.heap[k]?) (hz : w.heap.size ≤ w'.heap.size) : DkRest w' own G m where
  lt k hk := Nat.lt_of_lt_of_le (h.lt k hk) hz
  names := map_same h.names (hs _ h.on)
  on := h.on
  kept := map_same h.kept (hs _ h.ok)
  ok := h.ok
  nk := h.nk
  pend := row_same h.pend fun k hk => hs k (h.op k hk)
  op := h.op
  chs i v c h1 h2 := (h.chs i v c h1 h2).stay (fun _ h => h) (Nat.le_refl _) (fun _ _ => rfl) fun k hk _ _ _ _ => hs k hk
  inj := h.inj
  cells i hi := (h.cells i hi).same (hs _ (h.ol i hi))
  ol := h.ol
  rows i hi := row_same (h.rows i hi) fun k hk => hs k (h.or i k hi hk)
  or := h.or
  apart := h.apart

/-- The same, where only numbers have turned. -/
theorem DkRest.like (h : DkRest w own G m) (h1 : m'.made = m.made) (h2 : m'.names = m.names) (h3 : m'.kept = m.kept) (h4 : m'.pend = m.pend) (h5 : m'.files = m.files) : DkRest w own G m' := by
  obtain ⟨a, b, c, d, e, f, g, q, r, s, t, u, v, x, y⟩ := h
  constructor <;> first | assumption | (simp only [h1, h2, h3, h4, h5]; assumption)

/-- Names have turned. -/
theorem DkRest.named (h : DkRest w own G m) {l : Dir} {n : Nat} (hn : w'.ownsMap Tryz.prog 9 (ptrR m.made G.loc) G.nb n (encD l)) (hs : ∀ k, k < w.heap.size → k ≠ G.nb → w'.heap[k]? = w.heap[k]?) (hz : w.heap.size ≤ w'.heap.size) : DkRest w' own G { m with names := l } where
  lt k hk := Nat.lt_of_lt_of_le (h.lt k hk) hz
  names := by
    have := map_tight hn
    rw [size_enc] at this
    exact this
  on := h.on
  kept := map_same h.kept (hs _ (h.lt _ h.ok) fun e => h.nk e.symm)
  ok := h.ok
  nk := h.nk
  pend := row_same h.pend fun k hk => hs k (h.lt _ (h.op k hk)) fun e => by
    subst e
    obtain ⟨cur, h1⟩ := row_block h.pend hk
    obtain ⟨es, cl, h2⟩ := map_block h.names
    rw [h1] at h2; cases h2
  op := h.op
  chs i v c h1 h2 := (h.chs i v c h1 h2).stay (fun _ h => h) (Nat.le_refl _) (fun _ _ => rfl) fun k hk cs t e _ => hs k (h.lt k hk) fun ek => by
    subst ek
    obtain ⟨es, cl, h2⟩ := map_block h.names
    rw [e] at h2; cases h2
  inj := h.inj
  cells i hi := (h.cells i hi).same (hs _ (h.lt _ (h.ol i hi)) fun e => by
    have h1 := h.cells i hi
    obtain ⟨es, cl, h2⟩ := map_block h.names
    unfold Whole at h1
    rw [e, h2] at h1; cases h1)
  ol := h.ol
  rows i hi := row_same (h.rows i hi) fun k hk => hs k (h.lt _ (h.or i k hi hk)) fun e => by
    subst e
    obtain ⟨cur, h1⟩ := row_block (h.rows i hi) hk
    obtain ⟨es, cl, h2⟩ := map_block h.names
    rw [h1] at h2; cases h2
  or := h.or
  apart := h.apart

/-- What is kept of names has turned. -/
theorem DkRest.keptN (h : DkRest w own G m) {l : Dir} {n : Nat} (hn : w'.ownsMap Tryz.prog 9 (ptrR m.made G.loc) G.kb n (encD l)) (hs : ∀ k, k < w.heap.size → k ≠ G.kb → w'.heap[k]? = w.heap[k]?) (hz : w.heap.size ≤ w'.heap.size) : DkRest w' own G { m with kept := l } where
  lt k hk := Nat.lt_of_lt_of_le (h.lt k hk) hz
  kept := by
    have := map_tight hn
    rw [size_enc] at this
    exact this
  on := h.on
  names := map_same h.names (hs _ (h.lt _ h.on) fun e => h.nk e)
  ok := h.ok
  nk := h.nk
  pend := row_same h.pend fun k hk => hs k (h.lt _ (h.op k hk)) fun e => by
    subst e
    obtain ⟨cur, h1⟩ := row_block h.pend hk
    obtain ⟨es, cl, h2⟩ := map_block h.kept
    rw [h1] at h2; cases h2
  op := h.op
  chs i v c h1 h2 := (h.chs i v c h1 h2).stay (fun _ h => h) (Nat.le_refl _) (fun _ _ => rfl) fun k hk cs t e _ => hs k (h.lt k hk) fun ek => by
    subst ek
    obtain ⟨es, cl, h2⟩ := map_block h.kept
    rw [e] at h2; cases h2
  inj := h.inj
  cells i hi := (h.cells i hi).same (hs _ (h.lt _ (h.ol i hi)) fun e => by
    have h1 := h.cells i hi
    obtain ⟨es, cl, h2⟩ := map_block h.kept
    unfold Whole at h1
    rw [e, h2] at h1; cases h1)
  ol := h.ol
  rows i hi := row_same (h.rows i hi) fun k hk => hs k (h.lt _ (h.or i k hi hk)) fun e => by
    subst e
    obtain ⟨cur, h1⟩ := row_block (h.rows i hi) hk
    obtain ⟨es, cl, h2⟩ := map_block h.kept
    rw [h1] at h2; cases h2
  or := h.or
  apart := h.apart

/-- More blocks are the disk's own. -/
theorem DkRest.wider (h : DkRest w own G m) (ho : ∀ k, own k → own' k) (hl : ∀ k, own' k → k < w.heap.size) : DkRest w own' G m where
  lt := hl
  names := h.names
  on := ho _ h.on
  kept := h.kept
  ok := ho _ h.ok
  nk := h.nk
  pend := h.pend
  op k hk := ho _ (h.op k hk)
  chs i v c h1 h2 := (h.chs i v c h1 h2).stay ho (Nat.le_refl _) (fun _ _ => rfl) fun _ _ _ _ _ _ => rfl
  inj := h.inj
  cells := h.cells
  ol i hi := ho _ (h.ol i hi)
  rows := h.rows
  or i k hi hk := ho _ (h.or i k hi hk)
  apart := h.apart

/-- What is pending has turned. -/
theorem DkRest.pends (h : DkRest w own G m) {pv : Value} {pvs : List Value} {cs : List Ch} (hp : w'.ownsRow 0 108 1 pv cs.length pvs) (ho : ∀ k, pv.ownBlock = some k → own k) (hz : w.heap.size ≤ w'.heap.size)
    (hs : ∀ k, own k → (∀ cur, w.heap[k]? ≠ some (.cells cur 108 (0, 0))) → w'.heap[k]? = w.heap[k]?)
    (hc : ∀ (i : Nat) v c, pvs[i]? = some v → cs[i]? = some c → ChAt w own m.made G.loc v c) : DkRest w' own { G with pv := pv, pvs := pvs } { m with pend := cs } where
  lt k hk := Nat.lt_of_lt_of_le (h.lt k hk) hz
  names := map_same h.names (hs _ h.on fun cur e => by
    obtain ⟨es, cl, h2⟩ := map_block h.names
    rw [e] at h2; cases h2)
  on := h.on
  kept := map_same h.kept (hs _ h.ok fun cur e => by
    obtain ⟨es, cl, h2⟩ := map_block h.kept
    rw [e] at h2; cases h2)
  ok := h.ok
  nk := h.nk
  pend := hp
  op := ho
  chs i v c h1 h2 := (hc i v c h1 h2).stay (fun _ h => h) (Nat.le_refl _) (fun _ _ => rfl) fun k hk cs t e et => hs k hk fun cur e2 => by
    rw [e] at e2
    injection e2 with e2
    injection e2 with _ e2 _
    subst e2
    rcases et with et | et <;> cases et
  inj := h.inj
  cells i hi := (h.cells i hi).same (hs _ (h.ol i hi) fun cur e => by
    have h1 := h.cells i hi
    unfold Whole at h1
    rw [e] at h1
    injection h1 with h1
    injection h1 with _ h1 _
    cases h1)
  ol := h.ol
  rows i hi := row_same (h.rows i hi) fun k hk => hs k (h.or i k hi hk) fun cur e => by
    obtain ⟨cur', h1⟩ := row_block (h.rows i hi) hk
    rw [e] at h1
    injection h1 with h1
    injection h1 with _ h1 _
    cases h1
  or := h.or
  apart := h.apart

/-- A file has turned. -/
theorem DkRest.filed (h : DkRest w own G m) {i : Nat} (hi : i < m.made) {v : Value} {f : Fl} (hc : Whole w' (G.loc i) 92 #[.int .i64 (i : Int), v, .int .i64 (f.kept : Int)])
    (hr : w'.ownsRow 0 5 1 v f.bytes.length (f.bytes.map byteV)) (hw : ∀ k, own k → own' k) (hl : ∀ k, own' k → k < w'.heap.size) (ho : ∀ k, v.ownBlock = some k → own' k) (hv : ∀ k, v.ownBlock = some k → (G.row i).ownBlock = some k ∨ ∀ j, j < m.made → (G.row j).ownBlock ≠ some k) 
    (hs : ∀ k, own k → k ≠ G.loc i → (G.row i).ownBlock ≠ some k → w'.heap[k]? = w.heap[k]?) : DkRest w' own' { G with row := fun j => if j = i then v else G.row j } (m.setFile i f) := by
  have rowT : ∀ {k : Nat} {cs : Array Value} {t : TypeId}, w.heap[k]? = some (.cells cs t (0, 0)) → t ≠ 5 → (G.row i).ownBlock ≠ some k := fun hk ht e => by
    obtain ⟨cur, h1⟩ := row_block (h.rows i hi) e
    rw [hk] at h1
    injection h1 with h1
    injection h1 with _ h1 _
    exact ht h1
  have locT : ∀ {k : Nat} {cs : Array Value} {t : TypeId}, w.heap[k]? = some (.cells cs t (0, 0)) → t ≠ 92 → k ≠ G.loc i := fun hk ht e => by
    have h1 := h.cells i hi
    unfold Whole at h1
    rw [← e, hk] at h1
    injection h1 with h1
    injection h1 with _ h1 _
    exact ht h1
  have mapT : ∀ {k : Nat}, (∃ es cl, w.heap[k]? = some (.map es cl)) → k ≠ G.loc i ∧ (G.row i).ownBlock ≠ some k := fun ⟨es, cl, hk⟩ => by
    refine ⟨fun e => ?_, fun e => ?_⟩
    · have h1 := h.cells i hi
      unfold Whole at h1
      rw [← e, hk] at h1; cases h1
    · obtain ⟨cur, h1⟩ := row_block (h.rows i hi) e
      rw [hk] at h1; cases h1
  constructor
  · exact hl
  · exact map_same h.names (hs _ h.on (mapT (map_block h.names)).1 (mapT (map_block h.names)).2)
  · exact hw _ h.on
  · exact map_same h.kept (hs _ h.ok (mapT (map_block h.kept)).1 (mapT (map_block h.kept)).2)
  · exact hw _ h.ok
  · exact h.nk
  · exact row_same h.pend fun k hk => by
      obtain ⟨cur, h1⟩ := row_block h.pend hk
      exact hs k (h.op k hk) (locT h1 (by decide)) (rowT h1 (by decide))
  · exact fun k hk => hw _ (h.op k hk)
  · exact fun j u c h1 h2 => (h.chs j u c h1 h2).stay hw (Nat.le_refl _) (fun _ _ => rfl) fun k hk cs t e et => hs k hk (locT e (by rcases et with rfl | rfl <;> decide)) (rowT e (by rcases et with rfl | rfl <;> decide))
  · exact h.inj
  · intro j hj
    by_cases e : j = i
    · subst e
      simp only [Dk.setFile, if_pos rfl]
      exact hc
    · simp only [Dk.setFile, if_neg e]
      have h1 := h.cells j hj
      exact h1.same (hs _ (h.ol j hj) (fun e2 => e (h.inj _ _ hj hi e2)) (rowT h1 (by decide)))
  · exact fun i hi => hw _ (h.ol i hi)
  · intro j hj
    by_cases e : j = i
    · subst e
      simp only [Dk.setFile, if_pos rfl]
      exact hr
    · simp only [Dk.setFile, if_neg e]
      refine row_same (h.rows j hj) fun k hk => ?_
      obtain ⟨cur, h1⟩ := row_block (h.rows j hj) hk
      exact hs k (h.or j k hj hk) (locT h1 (by decide)) fun e2 => e (h.apart _ _ _ hj hi hk e2)
  · intro j k hj hk
    by_cases e : j = i
    · subst e
      simp only [if_pos rfl] at hk
      exact ho k hk
    · simp only [if_neg e] at hk
      exact hw _ (h.or j k hj hk)
  · intro a b k ha hb hka hkb
    have aux : ∀ x, x < m.made → x ≠ i → (G.row x).ownBlock = some k → v.ownBlock = some k → False := fun x hx hxi h1 h2 => by
      rcases hv k h2 with h3 | h3
      · exact hxi (h.apart _ _ _ hx hi h1 h3)
      · exact h3 x hx h1
    by_cases e : a = i
    · by_cases e' : b = i
      · rw [e, e']
      · simp only [if_pos e] at hka
        simp only [if_neg e'] at hkb
        exact (aux b hb e' hkb hka).elim
    · simp only [if_neg e] at hka
      by_cases e' : b = i
      · simp only [if_pos e'] at hkb
        exact (aux a ha e hka hkb).elim
      · simp only [if_neg e'] at hkb
        exact h.apart _ _ _ ha hb hka hkb

/-- A file is made. -/
theorem DkRest.making (h : DkRest w own G m) {b : Nat} (hb : Whole w b 92 #[.int .i64 (m.made : Int), .slice none 0 0, .int .i64 0]) (hn : ¬ own b) :
    DkRest w (fun k => own k ∨ k = b) { G with loc := fun j => if j = m.made then b else G.loc j, row := fun j => if j = m.made then .slice none 0 0 else G.row j } { m with files := fun j => if j = m.made then ⟨[], 0⟩ else m.files j, made := m.made + 1 } := by
  have hinj : ∀ i j, i < m.made + 1 → j < m.made + 1 → (if i = m.made then b else G.loc i) = (if j = m.made then b else G.loc j) → i = j := fun i j hi hj e => by
    by_cases h1 : i = m.made
    · by_cases h2 : j = m.made
      · omega
      · rw [if_pos h1, if_neg h2] at e
        exact (hn (e ▸ h.ol j (by omega))).elim
    · by_cases h2 : j = m.made
      · rw [if_neg h1, if_pos h2] at e
        exact (hn (e ▸ h.ol i (by omega))).elim
      · rw [if_neg h1, if_neg h2] at e
        exact h.inj _ _ (by omega) (by omega) e
  have hloc : ∀ i, i < m.made → (if i = m.made then b else G.loc i) = G.loc i := fun i hi => if_neg (by omega)
  constructor
  · rintro k (hk | rfl)
    · exact h.lt k hk
    · exact hb.lt
  · exact map_reader h.names (ptrR_more hinj (Nat.le_succ _) hloc)
  · exact .inl h.on
  · exact map_reader h.kept (ptrR_more hinj (Nat.le_succ _) hloc)
  · exact .inl h.ok
  · exact h.nk
  · exact h.pend
  · exact fun k hk => .inl (h.op k hk)
  · exact fun i v c h1 h2 => (h.chs i v c h1 h2).stay (fun _ h => .inl h) (Nat.le_succ _) hloc fun _ _ _ _ _ _ => rfl
  · exact hinj
  · intro i hi
    by_cases e : i = m.made
    · simp only [if_pos e]
      subst e
      exact hb
    · simp only [if_neg e]
      exact h.cells i (by have : i < m.made + 1 := hi; omega)
  · intro i hi
    by_cases e : i = m.made
    · simp only [if_pos e]
      exact .inr trivial
    · simp only [if_neg e]
      exact .inl (h.ol i (by have : i < m.made + 1 := hi; omega))
  · intro i hi
    by_cases e : i = m.made
    · simp only [if_pos e]
      exact ⟨rfl, .inl ⟨rfl, rfl⟩⟩
    · simp only [if_neg e]
      exact h.rows i (by have : i < m.made + 1 := hi; omega)
  · intro i k hi hk
    by_cases e : i = m.made
    · simp only [if_pos e] at hk
      cases hk
    · simp only [if_neg e] at hk
      exact .inl (h.or i k (by have : i < m.made + 1 := hi; omega) hk)
  · intro i j k hi hj h1 h2
    by_cases e : i = m.made
    · simp only [if_pos e] at h1
      cases h1
    · by_cases e' : j = m.made
      · simp only [if_pos e'] at h2
        cases h2
      · simp only [if_neg e] at h1
        simp only [if_neg e'] at h2
        exact h.apart _ _ _ (by have : i < m.made + 1 := hi; omega) (by have : j < m.made + 1 := hj; omega) h1 h2
end

def dCells (m : Dk) (nb kb : Nat) (pv : Value) : Array Value :=
  #[.int .i64 m.most, .int .i64 (m.made : Int), .int .i64 m.used, .map (some nb), .map (some kb), pv, .int .i64 m.done, .int .i64 m.fail, .int .i64 m.cut, .bool m.down]
/-- A disk at block d, with blocks of its own. -/
structure DkAt (w : World) (d : Nat) (own : Nat → Prop) (G : Geo) (m : Dk) : Prop where
  rest : DkRest w own G m
  top : Whole w d 72 (dCells m G.nb G.kb G.pv)
  free : ¬ own d

/-- Behind a call: the disk is so; only what is its own has turned, and what is its own now was so, or is new. -/
def DkTo (w : World) (d : Nat) (own : Nat → Prop) (w' : World) (m' : Dk) : Prop :=
  ∃ own' G', DkAt w' d own' G' m' ∧ Spares (fun k => k = d ∨ own k) w w' ∧ ∀ k, own' k → own k ∨ w.heap.size ≤ k
section
variable {w w' w'' : World} {d : Nat} {own : Nat → Prop} {G : Geo} {m m' : Dk}
theorem DkAt.stay (h : DkAt w d own G m) (hs : ∀ k, k = d ∨ own k → w'.heap[k]? = w.heap[k]?) (hz : w.heap.size ≤ w'.heap.size) : DkAt w' d own G m :=
  ⟨h.rest.stay (fun k hk => hs k (.inr hk)) hz, h.top.same (hs d (.inl rfl)), h.free⟩
theorem DkAt.lt (h : DkAt w d own G m) {k : Nat} (hk : k = d ∨ own k) : k < w.heap.size := by
  rcases hk with rfl | hk
  · exact h.top.lt
  · exact h.rest.lt k hk
theorem DkAt.grow (h : DkAt w d own G m) (hg : Grows w w') : DkAt w' d own G m := h.stay (fun k hk => hg.block k (h.lt hk)) hg.size
theorem DkAt.spare (h : DkAt w d own G m) {oth : Nat → Prop} (hs : Spares oth w w') (hn : ∀ k, k = d ∨ own k → ¬ oth k) : DkAt w' d own G m := h.stay (fun k hk => hs.same k (h.lt hk) (hn k hk)) hs.size
/-- Only the disk's own block has turned. -/
theorem DkAt.retop (h : DkAt w d own G m) (ht : Whole w' d 72 (dCells m' G.nb G.kb G.pv)) (hs : Spares (fun k => k = d) w w')
    (h1 : m'.made = m.made) (h2 : m'.names = m.names) (h3 : m'.kept = m.kept) (h4 : m'.pend = m.pend) (h5 : m'.files = m.files) : DkAt w' d own G m' :=
  ⟨(h.rest.stay (fun k hk => hs.same k (h.rest.lt k hk) fun e => h.free (e ▸ hk)) hs.size).like h1 h2 h3 h4 h5, ht, h.free⟩
end
end Go.Proofs.YtdkpbphgaenlnaaGreat

/-
  What only reads a disk, or sets one number of it; a name's file.
-/
namespace Go.Proofs.YtdkpbphgaenlnaaGreat
open Go.RowKit Go.Maps Go.WideMaps
set_option linter.unusedVariables false
set_option linter.unusedSimpArgs false

theorem lawStr : Keyed Tryz.prog 9 := string_keyed Tryz.underlying9
theorem zeroFile (w : World) : (zeroValue 89).run Tryz.prog w = .ok (.pointer none) w := by kernel_rfl
theorem keyStr {n : Nm} (hn : n.length ≤ maxLen) : keyOf Tryz.prog 9 (strB n) = some (.string n) := by
  have := keyOf_string_mk (P := Tryz.prog) (k := 9) Tryz.underlying9 (s := ⟨n.toArray⟩) (by simpa [ByteArray.size] using hn)
  unfold strB
  simpa using this

/-- A name's file. -/
def fileV (loc : Nat → Nat) (l : Dir) (n : Nm) : Value := match Dir.find n l with
  | some f => ptrV (loc f)
  | none => .pointer none
section
variable {w : World} {made : Nat} {loc : Nat → Nat} {b : Nat} {l : Dir} {n : Nm}
theorem look_in (h : OwnsDir w made loc b l) (hn : n.length ≤ maxLen) (ok : Bool) :
    (Instr.lookup 68 (.map (some b)) (strB n) ok).run Tryz.prog w = .ok (if ok then .tuple #[fileV loc l n, .bool (Dir.find n l).isSome] else fileV loc l n) w ∧ ∀ f, Dir.find n l = some f → f < made := by
  have key : ∀ v ps, ptrR made loc v = some ((encD l).atKey (.string n) (.lit (.int .i64 (-1))), ps) → v = fileV loc l n ∧ ∀ f, Dir.find n l = some f → f < made := fun v ps h2 => by
    rw [at_enc] at h2
    unfold fileV
    cases hf : Dir.find n l with
    | none =>
      rw [hf] at h2
      dsimp only at h2 ⊢
      rcases ptrR_inv h2 with ⟨rfl, _⟩ | ⟨i, _, _, e⟩
      · exact ⟨rfl, fun f e => by cases e⟩
      · simp only [Prod.mk.injEq, DataW.lit.injEq, Lit.int.injEq] at e
        omega
    | some f =>
      rw [hf] at h2
      dsimp only at h2 ⊢
      rcases ptrR_inv h2 with ⟨rfl, e⟩ | ⟨i, hi, rfl, e⟩
      · simp only [Prod.mk.injEq, DataW.lit.injEq, Lit.int.injEq] at e
        omega
      · simp only [Prod.mk.injEq, DataW.lit.injEq, Lit.int.injEq] at e
        obtain rfl : f = i := by omega
        exact ⟨rfl, fun f' e => by cases e; exact hi⟩
  cases ok with
  | true =>
    obtain ⟨v, ps, h1, h2⟩ := World.ownsMap.look_ok h lawStr Tryz.underlying68 (zeroFile w) (ptrR_nil made loc) (keyStr hn)
    obtain ⟨rfl, h3⟩ := key v ps h2
    rw [has_enc] at h1
    exact ⟨h1, h3⟩
  | false =>
    obtain ⟨v, ps, h1, h2⟩ := World.ownsMap.lookup h lawStr Tryz.underlying68 (zeroFile w) (ptrR_nil made loc) (keyStr hn)
    obtain ⟨rfl, h3⟩ := key v ps h2
    exact ⟨h1, h3⟩
end

section
variable {w : World} {d : Nat} {own : Nat → Prop} {G : Geo} {m : Dk} {n : Nm}
theorem DkAt.find_lt (h : DkAt w d own G m) (hn : n.length ≤ maxLen) {f : Nat} (hf : Dir.find n m.names = some f) : f < m.made := (look_in h.rest.names hn true).2 f hf
theorem DkAt.look (h : DkAt w d own G m) (hn : n.length ≤ maxLen) : (Instr.lookup 68 (.map (some G.nb)) (strB n) true).run Tryz.prog w = .ok (.tuple #[fileV G.loc m.names n, .bool (Dir.find n m.names).isSome]) w := (look_in h.rest.names hn true).1
theorem DkAt.look1 (h : DkAt w d own G m) (hn : n.length ≤ maxLen) : (Instr.lookup 68 (.map (some G.nb)) (strB n) false).run Tryz.prog w = .ok (fileV G.loc m.names n) w := (look_in h.rest.names hn false).1
/-- The cells of a disk's own block. -/
theorem DkAt.cell (h : DkAt w d own G m) (i : Nat) : w.cell? ⟨d, i, none⟩ = (dCells m G.nb G.kb G.pv)[i]? := h.top.cell i
theorem fileV_some {loc : Nat → Nat} {l : Dir} {f : Nat} (h : Dir.find n l = some f) : fileV loc l n = ptrV (loc f) := by unfold fileV; rw [h]
theorem fileV_none {loc : Nat → Nat} {l : Dir} (h : Dir.find n l = none) : fileV loc l n = .pointer none := by unfold fileV; rw [h]

set_option maxHeartbeats 1000000 in
set_option maxRecDepth 100000 in
theorem find_any (w : World) (h : DkAt w d own G m) (hn : n.length ≤ maxLen) : Calls Tryz.prog 102 #[.pointer (some ⟨d, 0, none⟩), .string ⟨n.toArray⟩] w fun e w' =>
    e = .returned (.tuple #[if m.down then .pointer none else fileV G.loc m.names n, .int .i64 (if m.down then 82 else if (Dir.find n m.names).isSome then 0 else 3)]) ∧ w = w' := by
  have c3 : w.cell? ⟨d, 3, none⟩ = some (.map (some G.nb)) := h.cell 3
  have c9 : w.cell? ⟨d, 9, none⟩ = some (.bool m.down) := h.cell 9
  have hl := h.look hn
  unfold strB at hl
  have hv0 : Dir.find n m.names = none → fileV G.loc m.names n = .pointer none := fileV_none
  clear h hn
  generalize fileV G.loc m.names n = fv at *
  cases hd : m.down with
  | true =>
    rw [hd] at c9
    clear hl hv0
    go_enter Tryz.func102, Tryz.ntmps102
    go_wp2
    go_ret2
    exact ⟨rfl, rfl⟩
  | false =>
    rw [hd] at c9
    cases hf : (Dir.find n m.names).isSome with
    | true =>
      rw [hf] at hl
      clear hf hd hv0
      go_enter Tryz.func102, Tryz.ntmps102
      go_wp2
      go_ret2
      exact ⟨rfl, rfl⟩
    | false =>
      have hv : fv = .pointer none := hv0 (by simpa using hf)
      rw [hf] at hl
      clear hf hd hv0
      subst hv
      go_enter Tryz.func102, Tryz.ntmps102
      go_wp2
      go_ret2
      exact ⟨rfl, rfl⟩

theorem size_any (w : World) (h : DkAt w d own G m) (hn : n.length ≤ maxLen) : Calls Tryz.prog 74 #[.pointer (some ⟨d, 0, none⟩), .string ⟨n.toArray⟩] w fun e w' =>
    e = .returned (.tuple #[.int .i64 (m.size n).1, .bool (m.size n).2]) ∧ w = w' := by
  have c3 : w.cell? ⟨d, 3, none⟩ = some (.map (some G.nb)) := h.cell 3
  have hl := h.look hn
  cases hf : Dir.find n m.names with
  | none =>
    rw [hf, fileV_none hf] at hl
    unfold strB at hl
    simp only [Option.isSome] at hl
    have hs : m.size n = (0, false) := by unfold Dk.size; rw [hf]
    rw [hs]
    clear h hn hf hs
    go_enter Tryz.func74, Tryz.ntmps74
    go_wp2
    go_ret2
    exact ⟨rfl, rfl⟩
  | some f =>
    rw [hf, fileV_some hf] at hl
    unfold strB ptrV at hl
    simp only [Option.isSome] at hl
    have hs : m.size n = (((m.files f).bytes.length : Int), true) := by unfold Dk.size; rw [hf]
    rw [hs]
    have hlt := h.find_lt hn hf
    obtain ⟨A, c, hA, _⟩ := slice_of_owned (h.rest.rows f hlt)
    have c1 : w.cell? ⟨G.loc f, 1, none⟩ = some (.slice A (m.files f).bytes.length c) := by rw [← hA]; exact (h.rest.cells f hlt).cell 1
    clear h hn hf hs hA
    dsimp only
    generalize (m.files f).bytes.length = k at *
    generalize G.loc f = lf at *
    go_enter Tryz.func74, Tryz.ntmps74
    go_wp2
    go_ret2
    exact ⟨rfl, rfl⟩

theorem done_any (w : World) (h : DkAt w d own G m) : Calls Tryz.prog 29 #[.pointer (some ⟨d, 0, none⟩)] w fun e w' => e = .returned (.int .i64 m.done) ∧ w = w' := by
  have c3 : w.cell? ⟨d, 6, none⟩ = some (.int .i64 m.done) := h.cell 6
  clear h
  go_enter Tryz.func29, Tryz.ntmps29
  go_wp2
  go_ret
  exact ⟨rfl, rfl⟩
theorem used_any (w : World) (h : DkAt w d own G m) : Calls Tryz.prog 27 #[.pointer (some ⟨d, 0, none⟩)] w fun e w' => e = .returned (.int .i64 m.used) ∧ w = w' := by
  have c3 : w.cell? ⟨d, 2, none⟩ = some (.int .i64 m.used) := h.cell 2
  clear h
  go_enter Tryz.func27, Tryz.ntmps27
  go_wp2
  go_ret
  exact ⟨rfl, rfl⟩
theorem right_any (n : Nm) (w : World) : Calls Tryz.prog 66 #[.string ⟨n.toArray⟩] w fun e w' => e = .returned (.bool (right n)) ∧ w = w' := by
  unfold right
  generalize hk : n.length = k
  have hs : (⟨n.toArray⟩ : ByteArray).size = k := by simpa [ByteArray.size] using hk
  clear hk
  generalize (⟨n.toArray⟩ : ByteArray) = s at *
  by_cases h1 : 1 ≤ k
  · have d1 : decide ((k : Int) ≥ 1) = true := by simp; omega
    by_cases h2 : k ≤ 16
    · have d2 : decide ((k : Int) ≤ 16) = true := by simp; omega
      rw [decide_eq_true h1, decide_eq_true h2]
      clear h1 h2
      go_enter Tryz.func66, Tryz.ntmps66
      go_wp2
      go_ret
      exact ⟨rfl, rfl⟩
    · have d2 : decide ((k : Int) ≤ 16) = false := by simp; omega
      rw [decide_eq_true h1, decide_eq_false h2]
      clear h1 h2
      go_enter Tryz.func66, Tryz.ntmps66
      go_wp2
      go_ret
      exact ⟨rfl, rfl⟩
  · have d1 : decide ((k : Int) ≥ 1) = false := by simp; omega
    rw [decide_eq_false h1]
    clear h1
    go_enter Tryz.func66, Tryz.ntmps66
    go_wp2
    go_ret
    exact ⟨rfl, rfl⟩

/-- A cell of a number, one sooner. -/
theorem sooner_any (w : World) {o : Nat} {x : Int} (hc : w.cell? ⟨d, o, none⟩ = some (.int .i64 x)) (hf : w.frozen? ⟨d, o, none⟩ = false) (hx : -9223372036854775807 ≤ x ∧ x ≤ 9223372036854775807) : Calls Tryz.prog 113 #[.pointer (some ⟨d, o, none⟩)] w fun e w' =>
    e = .returned (.tuple #[]) ∧ w' = if 0 < x then w.setCell ⟨d, o, none⟩ (.int .i64 (x - 1)) else w := by
  by_cases h1 : 0 < x
  · have e : wrap64 (x - 1) = x - 1 := IntWalk.wrap64_in _ (by omega)
    rw [if_pos h1]
    clear hx
    go_enter Tryz.func113, Tryz.ntmps113
    go_wp2
    go_end0
    exact ⟨rfl, rfl⟩
  · rw [if_neg h1]
    clear hx
    go_enter Tryz.func113, Tryz.ntmps113
    go_wp2
    go_end0
    exact ⟨rfl, rfl⟩
theorem set_any (w : World) {o : Nat} {x : Int} (y : Int) (hc : w.cell? ⟨d, o, none⟩ = some (.int .i64 x)) (hf : w.frozen? ⟨d, o, none⟩ = false) : Calls Tryz.prog 58 #[.pointer (some ⟨d, o, none⟩), .int .i64 y] w fun e w' =>
    e = .returned (.tuple #[]) ∧ w' = if 0 ≤ y then w.setCell ⟨d, o, none⟩ (.int .i64 y) else w := by
  by_cases h1 : 0 ≤ y
  · rw [if_pos h1]
    go_enter Tryz.func58, Tryz.ntmps58
    go_wp2
    go_end0
    exact ⟨rfl, rfl⟩
  · rw [if_neg h1]
    go_enter Tryz.func58, Tryz.ntmps58
    go_wp2
    go_end0
    exact ⟨rfl, rfl⟩

/-- A cell of a disk's own block is set: so is the number. -/
theorem DkAt.set (h : DkAt w d own G m) {m' : Dk} (i : Nat) (v : Value) (hd : (dCells m G.nb G.kb G.pv).setIfInBounds i v = dCells m' G.nb G.kb G.pv)
    (h1 : m'.made = m.made) (h2 : m'.names = m.names) (h3 : m'.kept = m.kept) (h4 : m'.pend = m.pend) (h5 : m'.files = m.files) : DkAt (w.setCell ⟨d, i, none⟩ v) d own G m' :=
  h.retop (hd ▸ h.top.put i v) ((Spares.refl (fun k => k = d) w).setCell (p := ⟨d, i, none⟩) rfl v) h1 h2 h3 h4 h5

theorem fail_any (w : World) (y : Int) (h : DkAt w d own G m) : Calls Tryz.prog 11 #[.pointer (some ⟨d, 0, none⟩), .int .i64 y] w fun e w' =>
    e = .returned (.tuple #[]) ∧ DkAt w' d own G (m.setFail y) ∧ Spares (fun k => k = d) w w' := by
  have c7 : w.cell? ⟨d, 7, none⟩ = some (.int .i64 m.fail) := h.cell 7
  have HC := Lib.hid (set_any w y c7 (h.top.free 7))
  have H := Lib.hid h
  clear h
  go_enter Tryz.func11, Tryz.ntmps11
  go_wp2_with (fail)
  refine HC.out.mono ?_
  rintro e w' ⟨rfl, hw⟩
  have HW := Lib.hid hw
  clear hw
  go_wp2_with (fail)
  go_end0
  have hw := HW.out
  by_cases hy : 0 ≤ y
  · rw [if_pos hy] at hw
    subst hw
    exact ⟨rfl, H.out.set 7 _ (by simp [dCells, Dk.setFail, hy]) rfl rfl rfl rfl rfl, (Spares.refl (fun k => k = d) w).setCell (p := ⟨d, 7, none⟩) rfl _⟩
  · rw [if_neg hy] at hw
    subst hw
    refine ⟨rfl, ?_, Spares.refl _ _⟩
    have : m.setFail y = m := by simp [Dk.setFail, hy]
    rw [this]
    exact H.out
theorem cut_any (w : World) (y : Int) (h : DkAt w d own G m) : Calls Tryz.prog 13 #[.pointer (some ⟨d, 0, none⟩), .int .i64 y] w fun e w' =>
    e = .returned (.tuple #[]) ∧ DkAt w' d own G (m.setCut y) ∧ Spares (fun k => k = d) w w' := by
  have c7 : w.cell? ⟨d, 8, none⟩ = some (.int .i64 m.cut) := h.cell 8
  have HC := Lib.hid (set_any w y c7 (h.top.free 8))
  have H := Lib.hid h
  clear h
  go_enter Tryz.func13, Tryz.ntmps13
  go_wp2_with (fail)
  refine HC.out.mono ?_
  rintro e w' ⟨rfl, hw⟩
  have HW := Lib.hid hw
  clear hw
  go_wp2_with (fail)
  go_end0
  have hw := HW.out
  by_cases hy : 0 ≤ y
  · rw [if_pos hy] at hw
    subst hw
    exact ⟨rfl, H.out.set 8 _ (by simp [dCells, Dk.setCut, hy]) rfl rfl rfl rfl rfl, (Spares.refl (fun k => k = d) w).setCell (p := ⟨d, 8, none⟩) rfl _⟩
  · rw [if_neg hy] at hw
    subst hw
    refine ⟨rfl, ?_, Spares.refl _ _⟩
    have : m.setCut y = m := by simp [Dk.setCut, hy]
    rw [this]
    exact H.out
end
end Go.Proofs.YtdkpbphgaenlnaaGreat

/-
  What is done to names: the three functions, over any map of names.
-/
namespace Go.Proofs.YtdkpbphgaenlnaaGreat
open Go.RowKit Go.Maps Go.WideMaps
set_option linter.unusedVariables false
set_option linter.unusedSimpArgs false

section
variable {w : World} {own : Nat → Prop} {made : Nat} {loc : Nat → Nat} {b n : Nat} {l : Dir}
abbrev OwnsN (w : World) (made : Nat) (loc : Nat → Nat) (b n : Nat) (l : Dir) : Prop := w.ownsMap Tryz.prog 9 (ptrR made loc) b n (encD l)

theorem whole_turned {H : Type} {P : Program} {k : TypeId} {R : Value → Option (DataW H × List MemPlace)} {w w' : World} {b n c t : Nat} {D : DataW H} {cs : Array Value} (hc : Whole w c t cs) (h : w.ownsMap P k R b n D) (ht : w.mapTurned w' b) : Whole w' c t cs :=
  hc.same (ht.grown.block c hc.lt fun e => by
    injection e with e
    subst e
    obtain ⟨es, cl, h2⟩ := map_block h
    unfold Whole at hc
    rw [h2] at hc; cases hc)

set_option maxHeartbeats 1000000 in
set_option maxRecDepth 100000 in
theorem taken_map (w : World) {x : Nm} {a : Nat} (h : OwnsN w made loc b n l) (hx : x.length ≤ maxLen) (ha : Whole w a 9 #[strB x]) :
    Calls Tryz.prog 164 #[.map (some b), ptrV a] w fun e w' => e = .returned (.tuple #[]) ∧ OwnsN w' made loc b (n + 1) (Dir.del x l) ∧ w.mapTurned w' b := by
  have c0 : w.cell? ⟨a, 0, none⟩ = some (.string ⟨x.toArray⟩) := ha.cell 0
  have hk := keyStr hx
  unfold ptrV
  unfold strB at hk
  clear ha hx
  go_enter Tryz.func164, Tryz.ntmps164
  go_wp2_with (first
    | (at_delete; refine wpList_delete_own _ rfl _ _ 68 9 rfl _ lawStr Tryz.underlying68 _ b n _ rfl h _ _ rfl hk ?_; intro w1 hown1 hturn1))
  go_end0
  rw [del_enc] at hown1
  exact ⟨rfl, hown1.mono (Nat.le_succ _), hturn1⟩

set_option maxHeartbeats 1000000 in
set_option maxRecDepth 100000 in
theorem made_map (w : World) {x : Nm} {f a c : Nat} (hinj : ∀ i j, i < made → j < made → loc i = loc j → i = j) (h : OwnsN w made loc b n l) (hn : n < maxLen) (hx : x.length ≤ maxLen) (hf : f < made) (ha : Whole w a 9 #[strB x]) (hc : Whole w c 89 #[ptrV (loc f)]) :
    Calls Tryz.prog 115 #[.map (some b), ptrV c, ptrV a] w fun e w' => e = .returned (.tuple #[]) ∧ OwnsN w' made loc b (n + 1) (Dir.put x f l) ∧ w.mapTurned w' b := by
  have c0 : w.cell? ⟨a, 0, none⟩ = some (.string ⟨x.toArray⟩) := ha.cell 0
  have c1 : w.cell? ⟨c, 0, none⟩ = some (.pointer (some ⟨loc f, 0, none⟩)) := hc.cell 0
  have hk := keyStr hx
  have hv := ptrR_mk hinj hf
  unfold ptrV
  unfold strB at hk
  clear ha hx hc hinj hf
  generalize loc f = lf at *
  go_enter Tryz.func115, Tryz.ntmps115
  go_wp2_with (first
    | (at_mapUpdate; refine wpList_mapUpdate_in _ rfl _ _ _ 68 rfl 9 _ lawStr Tryz.underlying68 _ b n _ rfl h hn _ _ _ rfl rfl hk _ _ hv ?_; intro w1 hown1 hturn1))
  go_end0
  rw [put_enc] at hown1
  exact ⟨rfl, hown1, hturn1⟩

set_option maxHeartbeats 1000000 in
set_option maxRecDepth 100000 in
theorem moved_map (w : World) {x y : Nm} {a c : Nat} (hinj : ∀ i j, i < made → j < made → loc i = loc j → i = j) (h : OwnsN w made loc b n l) (hn : n < maxLen) (hx : x.length ≤ maxLen) (hy : y.length ≤ maxLen) (ha : Whole w a 9 #[strB x]) (hc : Whole w c 9 #[strB y]) :
    Calls Tryz.prog 144 #[.map (some b), ptrV a, ptrV c] w fun e w' => e = .returned (.tuple #[]) ∧ OwnsN w' made loc b (n + 1) ((Ch.moved x y).on l) ∧ w.mapTurned w' b := by
  have c0 : w.cell? ⟨a, 0, none⟩ = some (.string ⟨x.toArray⟩) := ha.cell 0
  have hk := keyStr hx
  have hky := keyStr hy
  have hl := look_in (map_tight h |> fun h => by rw [size_enc] at h; exact h) hx true
  have hlk := hl.1
  have hlt := hl.2
  have HA := Lib.hid ha
  have HCc := Lib.hid hc
  unfold ptrV
  unfold strB at hk hky hlk
  clear hl ha hc hx hy
  cases hf : Dir.find x l with
  | none =>
    have e : (Ch.moved x y).on l = l := by simp only [Ch.on, hf]
    rw [hf, fileV_none hf] at hlk
    simp only [Option.isSome, if_true] at hlk
    rw [e]
    have H := Lib.hid h
    clear h hf hlt hinj hk hky e
    go_enter Tryz.func144, Tryz.ntmps144
    go_wp2
    go_end0
    exact ⟨rfl, H.out.mono (Nat.le_succ _), H.out.turned_refl⟩
  | some f =>
    have e : (Ch.moved x y).on l = Dir.put y f (Dir.del x l) := by simp only [Ch.on, hf]
    rw [hf, fileV_some hf] at hlk
    unfold ptrV at hlk
    simp only [Option.isSome, if_true] at hlk
    have hv := ptrR_mk hinj (hlt f hf)
    rw [e]
    clear hf hlt hinj e
    generalize loc f = lf at *
    go_enter Tryz.func144, Tryz.ntmps144
    go_wp2_with (first
      | (at_delete; refine wpList_delete_own _ rfl _ _ 68 9 rfl _ lawStr Tryz.underlying68 _ b n _ rfl h _ _ rfl hk ?_; intro w1 hown1 hturn1; have c1 : w1.cell? ⟨c, 0, none⟩ = some (.string ⟨y.toArray⟩) := (whole_turned HCc.out h hturn1).cell 0; have HT := Lib.hid hturn1; clear hturn1)
      | (at_mapUpdate; refine wpList_mapUpdate_in _ rfl _ _ _ 68 rfl 9 _ lawStr Tryz.underlying68 _ b n _ rfl hown1 hn _ _ _ rfl rfl hky _ _ hv ?_; intro w2 hown2 hturn2))
    go_end0
    rw [del_enc, put_enc] at hown2
    exact ⟨rfl, hown2, HT.out.trans hturn2⟩
end
end Go.Proofs.YtdkpbphgaenlnaaGreat

/-
  A change is done to names, and is pending.
-/
namespace Go.Proofs.YtdkpbphgaenlnaaGreat
open Go.RowKit Go.Maps Go.WideMaps
set_option linter.unusedVariables false
set_option linter.unusedSimpArgs false

theorem infoChange : (Tryz.prog.info? 108).map (fun i => (i.zero, i.size, i.bytes)) = some (some .nilFunc, 1, 8) := by kernel_rfl

theorem row_one (w : World) (t : TypeId) (u : Value) : Row (w.alloc (.cells #[u] t)) (w.alloc (.cells #[u] t)).heap.size (some ⟨w.heap.size, 0, none⟩) 1 [u] :=
  ⟨rfl, fun k v hv => ⟨⟨w.heap.size, 0, none⟩, rfl, (Whole.made w t #[u]).lt, by
    rw [show (⟨w.heap.size, 0, none⟩ : Addr).add k = ⟨w.heap.size, k, none⟩ by unfold Addr.add; split <;> simp_all, (Whole.made w t #[u]).cell k]
    simpa using hv⟩⟩

/-- Behind a change. -/
structure Changed (w : World) (d : Nat) (own : Nat → Prop) (w' : World) (m0 m' : Dk) : Prop where
  ends : ∃ own' G', DkRest w' own' G' m' ∧ Whole w' d 72 (dCells m0 G'.nb G'.kb G'.pv) ∧ ¬ own' d ∧ ∀ k, own' k → own k ∨ w.heap.size ≤ k
  low : Spares (fun k => k = d ∨ own k) w w'

section
variable {w : World} {d : Nat} {own : Nat → Prop} {G : Geo} {m m0 : Dk} {v : Value} {c : Ch}

/-- What is left to say behind the change itself, and the append. -/
theorem changed_of {w1 w2 w3 : World} {n : Nat} {A : Option Addr} {cc : Nat} (h : DkRest w own G m) (ht : Whole w d 72 (dCells m0 G.nb G.kb G.pv)) (hd : ¬ own d) (hc : ChAt w own m.made G.loc v c)
    (hn : OwnsN w1 m.made G.loc G.nb n (c.on m.names)) (ht1 : w.mapTurned w1 G.nb)
    (hr : w2.ownsRow 0 108 1 (.slice A (m.pend.length + 1) cc) (m.pend.length + 1) (G.pvs ++ [v])) (hg : (w1.alloc (.cells #[v] 108)).grownBy w2 G.pv.ownBlock)
    (hat : (Value.slice A (m.pend.length + 1) cc).ownBlock = G.pv.ownBlock ∨ (Value.slice A (m.pend.length + 1) cc).ownBlock = some (w1.alloc (.cells #[v] 108)).heap.size)
    (hw3 : w3 = w2.setCell ⟨d, 5, none⟩ (.slice A (m.pend.length + 1) cc)) : Changed w d own w3 m0 (m.change c) := by
  have hsz1 : w.heap.size ≤ w1.heap.size := ht1.grown.size
  have hsz2 : w.heap.size + 1 ≤ w2.heap.size := by have := hg.size; rw [World.size_alloc] at this; omega
  have a1 : DkRest w1 own G { m with names := c.on m.names } := h.named hn (fun k hk hne => ht1.grown.block k hk (fun e => hne (by injection e))) (by omega)
  have b2 : ∀ k, k < w.heap.size → G.pv.ownBlock ≠ some k → w2.heap[k]? = w1.heap[k]? := fun k hk hne => by
    rw [hg.block k (by rw [World.size_alloc]; omega) (fun e => hne e.symm)]
    exact Below.heap_alloc _ _ _ (by omega)
  have dT : ∀ {k : Nat} {cs : Array Value} {t : TypeId}, w.heap[k]? = some (.cells cs t (0, 0)) → t ≠ 108 → G.pv.ownBlock ≠ some k := fun hk hne e => by
    obtain ⟨cur, h1⟩ := row_block h.pend e
    rw [hk] at h1
    injection h1 with h1
    injection h1 with _ h1 _
    exact hne h1
  have ht' : Whole w2 d 72 (dCells m0 G.nb G.kb G.pv) := (ht.same (ht1.grown.block d ht.lt fun e => by
    injection e with e
    exact hd (e ▸ h.on))).same (b2 d ht.lt (dT ht (by decide)))
  have a2 : DkRest w2 (fun k => own k ∨ (Value.slice A (m.pend.length + 1) cc).ownBlock = some k) { G with pv := .slice A (m.pend.length + 1) cc, pvs := G.pvs ++ [v] } (m.change c) := by
    have a1' : DkRest w1 own G (m.change c |> fun x => { x with pend := m.pend }) := a1
    have wide : ∀ {x : World}, DkRest x own G { m with names := c.on m.names } → w.heap.size ≤ x.heap.size → True := fun _ _ => trivial
    have hlt2 : ∀ k, (own k ∨ (Value.slice A (m.pend.length + 1) cc).ownBlock = some k) → k < w2.heap.size := by
      rintro k (hk | hk)
      · have := h.lt k hk; omega
      · exact (hr.lt k hk).2
    constructor
    · exact hlt2
    · exact map_same a1.names (b2 _ (h.lt _ h.on) fun e => by
        obtain ⟨cur, h1⟩ := row_block h.pend e
        obtain ⟨es, cl, h2⟩ := map_block h.names
        rw [h1] at h2; cases h2)
    · exact .inl h.on
    · exact map_same a1.kept (b2 _ (h.lt _ h.ok) fun e => by
        obtain ⟨cur, h1⟩ := row_block h.pend e
        obtain ⟨es, cl, h2⟩ := map_block h.kept
        rw [h1] at h2; cases h2)
    · exact .inl h.ok
    · exact h.nk
    · show w2.ownsRow 0 108 1 _ (m.pend ++ [c]).length _
      rw [List.length_append]
      exact hr
    · exact fun k hk => .inr hk
    · intro i u x h1 h2
      have h1 : (G.pvs ++ [v])[i]? = some u := h1
      have h2 : (m.pend ++ [c])[i]? = some x := h2
      have stay : ∀ {u : Value} {x : Ch}, ChAt w1 own m.made G.loc u x → ChAt w2 (fun k => own k ∨ (Value.slice A (m.pend.length + 1) cc).ownBlock = some k) m.made G.loc u x := fun hu => hu.stay (fun _ h => .inl h) (Nat.le_refl _) (fun _ _ => rfl) fun k hk cs t e et =>
        b2 k (h.lt k hk) fun e2 => by
          obtain ⟨cur, h1⟩ := row_block a1.pend e2
          rw [e] at h1
          injection h1 with h1
          injection h1 with _ h1 _
          subst h1
          rcases et with et | et <;> cases et
      rcases Nat.lt_or_ge i m.pend.length with hi | hi
      · rw [List.getElem?_append_left (by have := h.nlen; omega)] at h1
        rw [List.getElem?_append_left hi] at h2
        exact stay (a1.chs i u x h1 h2)
      · rw [List.getElem?_append_right (by have := h.nlen; omega)] at h1
        rw [List.getElem?_append_right hi] at h2
        have e0 : i - m.pend.length = 0 := by
          rcases Nat.eq_zero_or_pos (i - m.pend.length) with e | e
          · exact e
          · rw [List.getElem?_eq_none (by simp only [List.length_cons, List.length_nil]; omega)] at h2; cases h2
        rw [h.nlen, e0] at h1
        rw [e0] at h2
        cases h1; cases h2
        exact stay (hc.stay (fun _ h => h) (Nat.le_refl _) (fun _ _ => rfl) fun k hk cs t e et => ht1.grown.block k (h.lt k hk) fun e2 => by
          injection e2 with e2
          subst e2
          obtain ⟨es, cl, h2⟩ := map_block h.names
          rw [e] at h2; cases h2)
    · exact h.inj
    · exact fun i hi => (a1.cells i hi).same (b2 _ (h.lt _ (h.ol i hi)) (dT (h.cells i hi) (by decide)))
    · exact fun i hi => .inl (h.ol i hi)
    · exact fun i hi => row_same (a1.rows i hi) fun k hk => b2 k (h.lt _ (h.or i k hi hk)) (by
        obtain ⟨cur, h1⟩ := row_block (h.rows i hi) hk
        exact dT h1 (by decide))
    · exact fun i k hi hk => .inl (h.or i k hi hk)
    · exact h.apart
  have hnd : ¬ (own d ∨ (Value.slice A (m.pend.length + 1) cc).ownBlock = some d) := by
    rintro (e | e)
    · exact hd e
    · obtain ⟨cur, h1⟩ := row_block hr e
      unfold Whole at ht'
      rw [ht'] at h1
      injection h1 with h1
      injection h1 with _ h1 _
      cases h1
  subst hw3
  refine ⟨⟨_, _, a2.stay (fun k hk => Below.heap_setCell _ _ _ _ fun e => hnd (by have e : k = d := e; exact e ▸ hk)) (by simp [World.setCell]), ?_, hnd, ?_⟩, ?_⟩
  · exact ht'.put 5 _
  · rintro k (hk | hk)
    · exact .inl hk
    · rcases hat with e | e
      · exact .inl (h.op k (e ▸ hk))
      · rw [e] at hk
        injection hk with hk
        rw [World.size_alloc] at hk
        exact .inr (by omega)
  · have s1 : Spares (fun k => k = d ∨ own k) w w1 := (Spares.refl _ w).grown ht1.grown fun g e => by
      injection e with e
      exact .inr (e ▸ h.on)
    exact ((s1.alloc _).grown hg fun g e => .inr (h.op g e)).setCell (p := ⟨d, 5, none⟩) (.inl rfl) _

set_option maxHeartbeats 2000000 in
set_option maxRecDepth 100000 in
theorem change_any (w : World) (h : DkRest w own G m) (ht : Whole w d 72 (dCells m0 G.nb G.kb G.pv)) (hd : ¬ own d) (hc : ChAt w own m.made G.loc v c) (hp : m.pend.length ≤ 1000000000) (hq : m.names.length ≤ 1000000000) :
    Calls Tryz.prog 69 #[.pointer (some ⟨d, 0, none⟩), v] w fun e w' => e = .returned (.tuple #[]) ∧ Changed w d own w' m0 (m.change c) := by
  have c3 : w.cell? ⟨d, 3, none⟩ = some (.map (some G.nb)) := ht.cell 3
  obtain ⟨i0, hi0, hz0, hz1, hz2⟩ := info_parts infoChange
  have HI := Lib.hid (And.intro hi0 (And.intro hz0 (And.intro hz1 hz2)))
  clear hi0 hz0 hz1 hz2
  obtain ⟨A0, cc0, hA0, _⟩ := slice_of_owned h.pend
  have HA0 := Lib.hid hA0
  -- what is known behind the change
  have next : ∀ w1, OwnsN w1 m.made G.loc G.nb (m.names.length + 1) (c.on m.names) → w.mapTurned w1 G.nb →
      w1.cell? ⟨d, 5, none⟩ = some (.slice A0 m.pend.length cc0) ∧ w1.frozen? ⟨d, 5, none⟩ = false ∧ d < w1.heap.size ∧ (w1.alloc (.cells #[v] 108)).ownsRow 0 108 1 (.slice A0 m.pend.length cc0) m.pend.length G.pvs ∧ ∀ w2, (w1.alloc (.cells #[v] 108)).grownBy w2 G.pv.ownBlock → w2.cell? ⟨d, 5, none⟩ = some (.slice A0 m.pend.length cc0) ∧ w2.frozen? ⟨d, 5, none⟩ = false := fun w1 hn ht1 => by
    have t1 : Whole w1 d 72 (dCells m0 G.nb G.kb G.pv) := ht.same (ht1.grown.block d ht.lt fun e => by
      injection e with e
      exact hd (e ▸ h.on))
    have e5 : w1.cell? ⟨d, 5, none⟩ = some G.pv := t1.cell 5
    rw [hA0] at e5
    refine ⟨e5, t1.free 5, t1.lt, ?_, fun w2 hg => ?_⟩
    rotate_left
    · have t2 : Whole w2 d 72 (dCells m0 G.nb G.kb G.pv) := (t1.alloc _).same (hg.block d (by rw [World.size_alloc]; have := t1.lt; omega) fun e => by
        obtain ⟨cur, h1⟩ := row_block h.pend e.symm
        unfold Whole at ht
        rw [ht] at h1
        injection h1 with h1
        injection h1 with _ h1 _
        cases h1)
      refine ⟨?_, t2.free 5⟩
      rw [← hA0]
      exact t2.cell 5
    rw [← hA0]
    have r1 : w1.ownsRow 0 108 1 G.pv m.pend.length G.pvs := row_same h.pend fun k hk => ht1.grown.block k (h.lt k (h.op k hk)) fun e => by
      injection e with e
      subst e
      obtain ⟨cur, h1⟩ := row_block h.pend hk
      obtain ⟨es, cl, h2⟩ := map_block h.names
      rw [h1] at h2; cases h2
    exact row_same r1 fun k hk => Below.heap_alloc _ _ _ (r1.lt k hk).2
  have fin := fun w1 w2 w3 n A cc hn ht1 hr hg hat hw3 => changed_of (w1 := w1) (w2 := w2) (w3 := w3) (n := n) (A := A) (cc := cc) h ht hd hc hn ht1 hr hg hat hw3
  have HF := Lib.hid fin
  have HN := Lib.hid next
  clear next fin hA0
  cases c with
  | taken n =>
    obtain ⟨q1, a, rfl, _, hwa⟩ := hc
    have HM := Lib.hid (taken_map w h.names q1 hwa)
    clear h ht hd
    unfold ptrV at *
    go_enter Tryz.func69, Tryz.ntmps69
    go_wp2_with (first
      | (go_at_call 164; refine (HM.out).mono ?_; rintro e w1 ⟨rfl, hn1, ht1⟩; have hx := HN.out w1 hn1 ht1; have c5 := hx.1; have f5 := hx.2.1; have HX := Lib.hid hx.2.2.2; have HN1 := Lib.hid hn1; have HT1 := Lib.hid ht1; clear hx hn1 ht1)
      | (at_builtin; refine list_append_row rfl _ _ 70 rfl Tryz.underlying70 HI.out.1 HI.out.2.1 HI.out.2.2.1 HI.out.2.2.2 rfl rfl HX.out.1 (news := _) rfl (row_one _ _ _) (fun h => by cases h) (by simp [Value.oneCell']) (m.pend.length + 1) rfl _ rfl (by unfold maxLen; omega) (by omega) (Nat.zero_le _) ?_; intro A2 cc2 w2 hr2 _ hg2 hat2; have hx2 := HX.out.2 w2 (HA0.out ▸ hg2); have c52 := hx2.1; have f52 := hx2.2; have HR2 := Lib.hid hr2; have HG2 := Lib.hid hg2; have HAT := Lib.hid hat2; clear hr2 hg2 hat2 hx2))
    go_end0
    exact ⟨rfl, HF.out _ _ _ _ _ _ HN1.out HT1.out HR2.out (HA0.out ▸ HG2.out) (HA0.out ▸ HAT.out) rfl⟩
  | made n f =>
    obtain ⟨q1, q2, a, b, rfl, _, _, hwb, hwa⟩ := hc
    have HM := Lib.hid (made_map w h.inj h.names (by unfold maxLen; omega) q1 q2 hwa hwb)
    clear h ht hd
    unfold ptrV at *
    go_enter Tryz.func69, Tryz.ntmps69
    go_wp2_with (first
      | (go_at_call 115; refine (HM.out).mono ?_; rintro e w1 ⟨rfl, hn1, ht1⟩; have hx := HN.out w1 hn1 ht1; have c5 := hx.1; have f5 := hx.2.1; have HX := Lib.hid hx.2.2.2; have HN1 := Lib.hid hn1; have HT1 := Lib.hid ht1; clear hx hn1 ht1)
      | (at_builtin; refine list_append_row rfl _ _ 70 rfl Tryz.underlying70 HI.out.1 HI.out.2.1 HI.out.2.2.1 HI.out.2.2.2 rfl rfl HX.out.1 (news := _) rfl (row_one _ _ _) (fun h => by cases h) (by simp [Value.oneCell']) (m.pend.length + 1) rfl _ rfl (by unfold maxLen; omega) (by omega) (Nat.zero_le _) ?_; intro A2 cc2 w2 hr2 _ hg2 hat2; have hx2 := HX.out.2 w2 (HA0.out ▸ hg2); have c52 := hx2.1; have f52 := hx2.2; have HR2 := Lib.hid hr2; have HG2 := Lib.hid hg2; have HAT := Lib.hid hat2; clear hr2 hg2 hat2 hx2))
    go_end0
    exact ⟨rfl, HF.out _ _ _ _ _ _ HN1.out HT1.out HR2.out (HA0.out ▸ HG2.out) (HA0.out ▸ HAT.out) rfl⟩
  | moved n to =>
    obtain ⟨q1, q2, a, b, rfl, _, _, hwa, hwb⟩ := hc
    have HM := Lib.hid (moved_map w h.inj h.names (by unfold maxLen; omega) q1 q2 hwa hwb)
    clear h ht hd
    unfold ptrV at *
    go_enter Tryz.func69, Tryz.ntmps69
    go_wp2_with (first
      | (go_at_call 144; refine (HM.out).mono ?_; rintro e w1 ⟨rfl, hn1, ht1⟩; have hx := HN.out w1 hn1 ht1; have c5 := hx.1; have f5 := hx.2.1; have HX := Lib.hid hx.2.2.2; have HN1 := Lib.hid hn1; have HT1 := Lib.hid ht1; clear hx hn1 ht1)
      | (at_builtin; refine list_append_row rfl _ _ 70 rfl Tryz.underlying70 HI.out.1 HI.out.2.1 HI.out.2.2.1 HI.out.2.2.2 rfl rfl HX.out.1 (news := _) rfl (row_one _ _ _) (fun h => by cases h) (by simp [Value.oneCell']) (m.pend.length + 1) rfl _ rfl (by unfold maxLen; omega) (by omega) (Nat.zero_le _) ?_; intro A2 cc2 w2 hr2 _ hg2 hat2; have hx2 := HX.out.2 w2 (HA0.out ▸ hg2); have c52 := hx2.1; have f52 := hx2.2; have HR2 := Lib.hid hr2; have HG2 := Lib.hid hg2; have HAT := Lib.hid hat2; clear hr2 hg2 hat2 hx2))
    go_end0
    exact ⟨rfl, HF.out _ _ _ _ _ _ HN1.out HT1.out HR2.out (HA0.out ▸ HG2.out) (HA0.out ▸ HAT.out) rfl⟩
end
end Go.Proofs.YtdkpbphgaenlnaaGreat
