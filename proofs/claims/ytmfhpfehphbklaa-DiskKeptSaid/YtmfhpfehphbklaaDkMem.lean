/-
  A disk of package disk in memory: its own block, two maps, a row of functions, its files.
-/
import Derived.Test.YtmfhpfehphbklaaDkPlain
import Derived.Test.YtmfhpfehphbklaaRange
import Derived.Test.YtmfhpfehphbklaaSteps
import Derived.Test.YtmfhpfehphbklaaMark
import Derived.Lib.Hide
namespace Go.Proofs.Ytmfhpfehphbklaa
open Go.RowKit Go.Maps
open Go.WideElems (Fit rd rg pl rd_val elemAt)
set_option linter.unusedVariables false
set_option linter.unusedSimpArgs false

/-- A row stays where its block does. -/
theorem row_same {w w' : World} {base : Nat} {e : TypeId} {size : Nat} {v : Value} {n : Nat} {xs : List Value} (h : w.ownsRow base e size v n xs) (hk : ∀ k, v.ownBlock = some k → w'.heap[k]? = w.heap[k]?) : w'.ownsRow base e size v n xs := by
  obtain ⟨h1, h2⟩ := h
  refine ⟨h1, ?_⟩
  rcases h2 with h2 | ⟨g, cap, cur, rfl, hb, hh, r⟩
  · exact .inl h2
  · exact .inr ⟨g, cap, cur, rfl, hb, (hk g rfl).trans hh, r⟩
theorem row_block {w : World} {base : Nat} {e : TypeId} {size : Nat} {v : Value} {n : Nat} {xs : List Value} (h : w.ownsRow base e size v n xs) {k : Nat} (hk : v.ownBlock = some k) : ∃ cur, w.heap[k]? = some (.cells cur e (0, 0)) := by
  rcases h.2 with ⟨rfl, _⟩ | ⟨g, cap, cur, rfl, hb, hh, r⟩
  · simp [Value.ownBlock] at hk
  · obtain rfl : g = k := by simpa [Value.ownBlock] using hk
    exact ⟨cur, hh⟩

section
variable {H : Type} {P : Program} {k : TypeId} {R R' : Value → Option (DataW H × List MemPlace)} {w w' : World} {b n : Nat} {D : DataW H}
theorem map_same (h : w.ownsMap P k R b n D) (e : w'.heap[b]? = w.heap[b]?) : w'.ownsMap P k R b n D := by
  obtain ⟨es, clock, hb, r⟩ := h
  exact ⟨es, clock, e.trans hb, r⟩
theorem map_block (h : w.ownsMap P k R b n D) : ∃ es clock, w.heap[b]? = some (.map es clock) := by
  obtain ⟨es, clock, hb, _⟩ := h
  exact ⟨es, clock, hb⟩
/-- No more entries than there are. -/
theorem map_tight (h : w.ownsMap P k R b n D) : w.ownsMap P k R b (Maps.size D) D := by
  obtain ⟨es, clock, hb, F, hs, rfl⟩ := h
  refine ⟨es, clock, hb, F, ?_, rfl⟩
  simp [Maps.size, length_sorted]
theorem map_reader (h : w.ownsMap P k R b n D) (hR : ∀ v z, R v = some z → R' v = some z) : w.ownsMap P k R' b n D := by
  obtain ⟨es, clock, hb, F, hs, rfl⟩ := h
  obtain ⟨F1, hmap, _⟩ := F.stay (R' := R') fun x _ z hz => hR _ _ hz
  exact ⟨es, clock, hb, F1, hs, by rw [hmap]⟩
end

/-- How a file's pointer reads: by the number of its making. -/
def ptrR (made : Nat) (loc : Nat → Nat) : Value → Option (DataW Unit × List MemPlace)
  | .pointer none => some (.lit (.int .i64 (-1)), [])
  | .pointer (some ⟨b, 0, none⟩) => ((List.range made).find? fun i => loc i == b).map fun (i : Nat) => (.lit (.int .i64 (i : Int)), [])
  | _ => none
theorem ptrR_nil (made : Nat) (loc : Nat → Nat) : ptrR made loc (.pointer none) = some (.lit (.int .i64 (-1)), []) := rfl
theorem ptrR_mk {made : Nat} {loc : Nat → Nat} (hinj : ∀ i j, i < made → j < made → loc i = loc j → i = j) {i : Nat} (hi : i < made) : ptrR made loc (.pointer (some ⟨loc i, 0, none⟩)) = some (.lit (.int .i64 (i : Int)), []) := by
  unfold ptrR
  cases h : (List.range made).find? fun j => loc j == loc i with
  | none => simpa using (List.find?_eq_none.1 h) i (List.mem_range.2 hi)
  | some j =>
    have h1 := List.find?_some h
    have h2 := List.mem_range.1 (List.mem_of_find?_eq_some h)
    obtain rfl := hinj j i h2 hi (by simpa using h1)
    simp only [h]
    rfl
theorem ptrR_inv {made : Nat} {loc : Nat → Nat} {v : Value} {z : DataW Unit × List MemPlace} (h : ptrR made loc v = some z) :
    (v = .pointer none ∧ z = (.lit (.int .i64 (-1)), [])) ∨ ∃ i, i < made ∧ v = .pointer (some ⟨loc i, 0, none⟩) ∧ z = (.lit (.int .i64 (i : Int)), []) := by
  unfold ptrR at h
  split at h
  · cases h; exact .inl ⟨rfl, rfl⟩
  · rename_i b
    cases hf : (List.range made).find? fun i => loc i == b with
    | none => rw [hf] at h; cases h
    | some i =>
      rw [hf] at h
      cases h
      have h1 := List.find?_some hf
      have h2 := List.mem_range.1 (List.mem_of_find?_eq_some hf)
      have h3 : loc i = b := by simpa using h1
      exact .inr ⟨i, h2, by rw [h3], rfl⟩
  · cases h
theorem ptrR_more {made made' : Nat} {loc loc' : Nat → Nat} (hinj : ∀ i j, i < made' → j < made' → loc' i = loc' j → i = j) (hm : made ≤ made') (hl : ∀ i, i < made → loc' i = loc i) (v : Value) (z : DataW Unit × List MemPlace) (h : ptrR made loc v = some z) : ptrR made' loc' v = some z := by
  rcases ptrR_inv h with ⟨rfl, rfl⟩ | ⟨i, hi, rfl, rfl⟩
  · rfl
  · rw [← hl i hi]
    exact ptrR_mk hinj (by omega)

/-- Where a disk has its things. -/
structure Geo where
  nb : Nat
  kb : Nat
  pv : Value
  pvs : List Value
  loc : Nat → Nat
  row : Nat → Value

def strB (n : Nm) : Value := .string ⟨n.toArray⟩
def ptrV (b : Nat) : Value := .pointer (some ⟨b, 0, none⟩)

/-- A function that is a change. -/
def ChAt (w : World) (own : Nat → Prop) (made : Nat) (loc : Nat → Nat) (v : Value) : Ch → Prop
  | .made n f => n.length ≤ maxLen ∧ f < made ∧ ∃ a b, v = .func (.func 83) #[] #[ptrV b, ptrV a] ∧ own a ∧ own b ∧ Whole w b 91 #[ptrV (loc f)] ∧ Whole w a 9 #[strB n]
  | .moved n to => n.length ≤ maxLen ∧ to.length ≤ maxLen ∧ ∃ a b, v = .func (.func 88) #[] #[ptrV a, ptrV b] ∧ own a ∧ own b ∧ Whole w a 9 #[strB n] ∧ Whole w b 9 #[strB to]
  | .taken n => n.length ≤ maxLen ∧ ∃ a, v = .func (.func 89) #[] #[ptrV a] ∧ own a ∧ Whole w a 9 #[strB n]
theorem ChAt.stay {w w' : World} {own own' : Nat → Prop} {made made' : Nat} {loc loc' : Nat → Nat} {v : Value} {c : Ch} (h : ChAt w own made loc v c) (ho : ∀ k, own k → own' k) (hm : made ≤ made') (hl : ∀ i, i < made → loc' i = loc i)
    (hs : ∀ k, own k → (∀ cs t, w.heap[k]? = some (.cells cs t (0, 0)) → t = 91 ∨ t = 9 → w'.heap[k]? = w.heap[k]?)) : ChAt w' own' made' loc' v c := by
  cases c with
  | made n f =>
    obtain ⟨h1, h2, a, b, h3, h4, h5, h6, h7⟩ := h
    exact ⟨h1, by omega, a, b, h3, ho _ h4, ho _ h5, by rw [hl f h2]; exact h6.same (hs b h5 _ _ h6 (.inl rfl)), h7.same (hs a h4 _ _ h7 (.inr rfl))⟩
  | moved n to =>
    obtain ⟨h1, h2, a, b, h3, h4, h5, h6, h7⟩ := h
    exact ⟨h1, h2, a, b, h3, ho _ h4, ho _ h5, h6.same (hs a h4 _ _ h6 (.inr rfl)), h7.same (hs b h5 _ _ h7 (.inr rfl))⟩
  | taken n =>
    obtain ⟨h1, a, h3, h4, h6⟩ := h
    exact ⟨h1, a, h3, ho _ h4, h6.same (hs a h4 _ _ h6 (.inr rfl))⟩

abbrev OwnsDir (w : World) (made : Nat) (loc : Nat → Nat) (b : Nat) (l : Dir) : Prop := w.ownsMap Try.prog 9 (ptrR made loc) b l.length (encD l)

/-- All that a disk has, but for its own block. -/
structure DkRest (w : World) (own : Nat → Prop) (G : Geo) (m : Dk) : Prop where
  lt : ∀ k, own k → k < w.heap.size
  names : OwnsDir w m.made G.loc G.nb m.names
  on : own G.nb
  kept : OwnsDir w m.made G.loc G.kb m.kept
  ok : own G.kb
  nk : G.nb ≠ G.kb
  pend : w.ownsRow 0 95 1 G.pv m.pend.length G.pvs
  op : ∀ k, G.pv.ownBlock = some k → own k
  chs : ∀ (i : Nat) v c, G.pvs[i]? = some v → m.pend[i]? = some c → ChAt w own m.made G.loc v c
  inj : ∀ i j, i < m.made → j < m.made → G.loc i = G.loc j → i = j
  cells : ∀ i, i < m.made → Whole w (G.loc i) 98 #[.int .i64 (i : Int), G.row i, .int .i64 ((m.files i).kept : Int)]
  ol : ∀ i, i < m.made → own (G.loc i)
  rows : ∀ i, i < m.made → w.ownsRow 0 5 1 (G.row i) (m.files i).bytes.length ((m.files i).bytes.map byteV)
  or : ∀ i k, i < m.made → (G.row i).ownBlock = some k → own k
  apart : ∀ i j k, i < m.made → j < m.made → (G.row i).ownBlock = some k → (G.row j).ownBlock = some k → i = j

section
variable {w w' : World} {own own' : Nat → Prop} {G : Geo} {m m' : Dk}

theorem DkRest.nlen (h : DkRest w own G m) : G.pvs.length = m.pend.length := by have := h.pend.1; omega

theorem DkRest.stay (h : DkRest w own G m) (hs : ∀ k, own k → w'.heap[k]? = w.heap[k]?) (hz : w.heap.size ≤ w'.heap.size) : DkRest w' own G m where
  lt k hk := Nat.lt_of_lt_of_le (h.lt k hk) hz
  names := map_same h.names (hs _ h.on)
  on := h.on
  kept := map_same h.kept (hs _ h.ok)
  ok := h.ok
  nk := h.nk
  pend := row_same h.pend fun k hk => hs k (h.op k hk)
  op := h.op
  chs i v c h1 h2 := (h.chs i v c h1 h2).stay (fun _ h => h) (Nat.le_refl _) (fun _ _ => rfl) fun k hk _ _ _ _ => hs k hk
  inj := h.inj
  cells i hi := (h.cells i hi).same (hs _ (h.ol i hi))
  ol := h.ol
  rows i hi := row_same (h.rows i hi) fun k hk => hs k (h.or i k hi hk)
  or := h.or
  apart := h.apart

/-- The same, where only numbers have turned. -/
theorem DkRest.like (h : DkRest w own G m) (h1 : m'.made = m.made) (h2 : m'.names = m.names) (h3 : m'.kept = m.kept) (h4 : m'.pend = m.pend) (h5 : m'.files = m.files) : DkRest w own G m' := by
  obtain ⟨a, b, c, d, e, f, g, q, r, s, t, u, v, x, y⟩ := h
  constructor <;> first | assumption | (simp only [h1, h2, h3, h4, h5]; assumption)

/-- Names have turned. -/
theorem DkRest.named (h : DkRest w own G m) {l : Dir} {n : Nat} (hn : w'.ownsMap Try.prog 9 (ptrR m.made G.loc) G.nb n (encD l)) (hs : ∀ k, k < w.heap.size → k ≠ G.nb → w'.heap[k]? = w.heap[k]?) (hz : w.heap.size ≤ w'.heap.size) : DkRest w' own G { m with names := l } where
  lt k hk := Nat.lt_of_lt_of_le (h.lt k hk) hz
  names := by
    have := map_tight hn
    rw [size_enc] at this
    exact this
  on := h.on
  kept := map_same h.kept (hs _ (h.lt _ h.ok) fun e => h.nk e.symm)
  ok := h.ok
  nk := h.nk
  pend := row_same h.pend fun k hk => hs k (h.lt _ (h.op k hk)) fun e => by
    subst e
    obtain ⟨cur, h1⟩ := row_block h.pend hk
    obtain ⟨es, cl, h2⟩ := map_block h.names
    rw [h1] at h2; cases h2
  op := h.op
  chs i v c h1 h2 := (h.chs i v c h1 h2).stay (fun _ h => h) (Nat.le_refl _) (fun _ _ => rfl) fun k hk cs t e _ => hs k (h.lt k hk) fun ek => by
    subst ek
    obtain ⟨es, cl, h2⟩ := map_block h.names
    rw [e] at h2; cases h2
  inj := h.inj
  cells i hi := (h.cells i hi).same (hs _ (h.lt _ (h.ol i hi)) fun e => by
    have h1 := h.cells i hi
    obtain ⟨es, cl, h2⟩ := map_block h.names
    unfold Whole at h1
    rw [e, h2] at h1; cases h1)
  ol := h.ol
  rows i hi := row_same (h.rows i hi) fun k hk => hs k (h.lt _ (h.or i k hi hk)) fun e => by
    subst e
    obtain ⟨cur, h1⟩ := row_block (h.rows i hi) hk
    obtain ⟨es, cl, h2⟩ := map_block h.names
    rw [h1] at h2; cases h2
  or := h.or
  apart := h.apart

/-- What is kept of names has turned. -/
theorem DkRest.keptN (h : DkRest w own G m) {l : Dir} {n : Nat} (hn : w'.ownsMap Try.prog 9 (ptrR m.made G.loc) G.kb n (encD l)) (hs : ∀ k, k < w.heap.size → k ≠ G.kb → w'.heap[k]? = w.heap[k]?) (hz : w.heap.size ≤ w'.heap.size) : DkRest w' own G { m with kept := l } where
  lt k hk := Nat.lt_of_lt_of_le (h.lt k hk) hz
  kept := by
    have := map_tight hn
    rw [size_enc] at this
    exact this
  on := h.on
  names := map_same h.names (hs _ (h.lt _ h.on) fun e => h.nk e)
  ok := h.ok
  nk := h.nk
  pend := row_same h.pend fun k hk => hs k (h.lt _ (h.op k hk)) fun e => by
    subst e
    obtain ⟨cur, h1⟩ := row_block h.pend hk
    obtain ⟨es, cl, h2⟩ := map_block h.kept
    rw [h1] at h2; cases h2
  op := h.op
  chs i v c h1 h2 := (h.chs i v c h1 h2).stay (fun _ h => h) (Nat.le_refl _) (fun _ _ => rfl) fun k hk cs t e _ => hs k (h.lt k hk) fun ek => by
    subst ek
    obtain ⟨es, cl, h2⟩ := map_block h.kept
    rw [e] at h2; cases h2
  inj := h.inj
  cells i hi := (h.cells i hi).same (hs _ (h.lt _ (h.ol i hi)) fun e => by
    have h1 := h.cells i hi
    obtain ⟨es, cl, h2⟩ := map_block h.kept
    unfold Whole at h1
    rw [e, h2] at h1; cases h1)
  ol := h.ol
  rows i hi := row_same (h.rows i hi) fun k hk => hs k (h.lt _ (h.or i k hi hk)) fun e => by
    subst e
    obtain ⟨cur, h1⟩ := row_block (h.rows i hi) hk
    obtain ⟨es, cl, h2⟩ := map_block h.kept
    rw [h1] at h2; cases h2
  or := h.or
  apart := h.apart

/-- More blocks are the disk's own. -/
theorem DkRest.wider (h : DkRest w own G m) (ho : ∀ k, own k → own' k) (hl : ∀ k, own' k → k < w.heap.size) : DkRest w own' G m where
  lt := hl
  names := h.names
  on := ho _ h.on
  kept := h.kept
  ok := ho _ h.ok
  nk := h.nk
  pend := h.pend
  op k hk := ho _ (h.op k hk)
  chs i v c h1 h2 := (h.chs i v c h1 h2).stay ho (Nat.le_refl _) (fun _ _ => rfl) fun _ _ _ _ _ _ => rfl
  inj := h.inj
  cells := h.cells
  ol i hi := ho _ (h.ol i hi)
  rows := h.rows
  or i k hi hk := ho _ (h.or i k hi hk)
  apart := h.apart

/-- What is pending has turned. -/
theorem DkRest.pends (h : DkRest w own G m) {pv : Value} {pvs : List Value} {cs : List Ch} (hp : w'.ownsRow 0 95 1 pv cs.length pvs) (ho : ∀ k, pv.ownBlock = some k → own k) (hz : w.heap.size ≤ w'.heap.size)
    (hs : ∀ k, own k → (∀ cur, w.heap[k]? ≠ some (.cells cur 95 (0, 0))) → w'.heap[k]? = w.heap[k]?)
    (hc : ∀ (i : Nat) v c, pvs[i]? = some v → cs[i]? = some c → ChAt w own m.made G.loc v c) : DkRest w' own { G with pv := pv, pvs := pvs } { m with pend := cs } where
  lt k hk := Nat.lt_of_lt_of_le (h.lt k hk) hz
  names := map_same h.names (hs _ h.on fun cur e => by
    obtain ⟨es, cl, h2⟩ := map_block h.names
    rw [e] at h2; cases h2)
  on := h.on
  kept := map_same h.kept (hs _ h.ok fun cur e => by
    obtain ⟨es, cl, h2⟩ := map_block h.kept
    rw [e] at h2; cases h2)
  ok := h.ok
  nk := h.nk
  pend := hp
  op := ho
  chs i v c h1 h2 := (hc i v c h1 h2).stay (fun _ h => h) (Nat.le_refl _) (fun _ _ => rfl) fun k hk cs t e et => hs k hk fun cur e2 => by
    rw [e] at e2
    injection e2 with e2
    injection e2 with _ e2 _
    subst e2
    rcases et with et | et <;> cases et
  inj := h.inj
  cells i hi := (h.cells i hi).same (hs _ (h.ol i hi) fun cur e => by
    have h1 := h.cells i hi
    unfold Whole at h1
    rw [e] at h1
    injection h1 with h1
    injection h1 with _ h1 _
    cases h1)
  ol := h.ol
  rows i hi := row_same (h.rows i hi) fun k hk => hs k (h.or i k hi hk) fun cur e => by
    obtain ⟨cur', h1⟩ := row_block (h.rows i hi) hk
    rw [e] at h1
    injection h1 with h1
    injection h1 with _ h1 _
    cases h1
  or := h.or
  apart := h.apart

/-- A file has turned. -/
theorem DkRest.filed (h : DkRest w own G m) {i : Nat} (hi : i < m.made) {v : Value} {f : Fl} (hc : Whole w' (G.loc i) 98 #[.int .i64 (i : Int), v, .int .i64 (f.kept : Int)])
    (hr : w'.ownsRow 0 5 1 v f.bytes.length (f.bytes.map byteV)) (hw : ∀ k, own k → own' k) (hl : ∀ k, own' k → k < w'.heap.size) (ho : ∀ k, v.ownBlock = some k → own' k) (hv : ∀ k, v.ownBlock = some k → (G.row i).ownBlock = some k ∨ ∀ j, j < m.made → (G.row j).ownBlock ≠ some k) 
    (hs : ∀ k, own k → k ≠ G.loc i → (G.row i).ownBlock ≠ some k → w'.heap[k]? = w.heap[k]?) : DkRest w' own' { G with row := fun j => if j = i then v else G.row j } (m.setFile i f) := by
  have rowT : ∀ {k : Nat} {cs : Array Value} {t : TypeId}, w.heap[k]? = some (.cells cs t (0, 0)) → t ≠ 5 → (G.row i).ownBlock ≠ some k := fun hk ht e => by
    obtain ⟨cur, h1⟩ := row_block (h.rows i hi) e
    rw [hk] at h1
    injection h1 with h1
    injection h1 with _ h1 _
    exact ht h1
  have locT : ∀ {k : Nat} {cs : Array Value} {t : TypeId}, w.heap[k]? = some (.cells cs t (0, 0)) → t ≠ 98 → k ≠ G.loc i := fun hk ht e => by
    have h1 := h.cells i hi
    unfold Whole at h1
    rw [← e, hk] at h1
    injection h1 with h1
    injection h1 with _ h1 _
    exact ht h1
  have mapT : ∀ {k : Nat}, (∃ es cl, w.heap[k]? = some (.map es cl)) → k ≠ G.loc i ∧ (G.row i).ownBlock ≠ some k := fun ⟨es, cl, hk⟩ => by
    refine ⟨fun e => ?_, fun e => ?_⟩
    · have h1 := h.cells i hi
      unfold Whole at h1
      rw [← e, hk] at h1; cases h1
    · obtain ⟨cur, h1⟩ := row_block (h.rows i hi) e
      rw [hk] at h1; cases h1
  constructor
  · exact hl
  · exact map_same h.names (hs _ h.on (mapT (map_block h.names)).1 (mapT (map_block h.names)).2)
  · exact hw _ h.on
  · exact map_same h.kept (hs _ h.ok (mapT (map_block h.kept)).1 (mapT (map_block h.kept)).2)
  · exact hw _ h.ok
  · exact h.nk
  · exact row_same h.pend fun k hk => by
      obtain ⟨cur, h1⟩ := row_block h.pend hk
      exact hs k (h.op k hk) (locT h1 (by decide)) (rowT h1 (by decide))
  · exact fun k hk => hw _ (h.op k hk)
  · exact fun j u c h1 h2 => (h.chs j u c h1 h2).stay hw (Nat.le_refl _) (fun _ _ => rfl) fun k hk cs t e et => hs k hk (locT e (by rcases et with rfl | rfl <;> decide)) (rowT e (by rcases et with rfl | rfl <;> decide))
  · exact h.inj
  · intro j hj
    by_cases e : j = i
    · subst e
      simp only [Dk.setFile, if_pos rfl]
      exact hc
    · simp only [Dk.setFile, if_neg e]
      have h1 := h.cells j hj
      exact h1.same (hs _ (h.ol j hj) (fun e2 => e (h.inj _ _ hj hi e2)) (rowT h1 (by decide)))
  · exact fun i hi => hw _ (h.ol i hi)
  · intro j hj
    by_cases e : j = i
    · subst e
      simp only [Dk.setFile, if_pos rfl]
      exact hr
    · simp only [Dk.setFile, if_neg e]
      refine row_same (h.rows j hj) fun k hk => ?_
      obtain ⟨cur, h1⟩ := row_block (h.rows j hj) hk
      exact hs k (h.or j k hj hk) (locT h1 (by decide)) fun e2 => e (h.apart _ _ _ hj hi hk e2)
  · intro j k hj hk
    by_cases e : j = i
    · subst e
      simp only [if_pos rfl] at hk
      exact ho k hk
    · simp only [if_neg e] at hk
      exact hw _ (h.or j k hj hk)
  · intro a b k ha hb hka hkb
    have aux : ∀ x, x < m.made → x ≠ i → (G.row x).ownBlock = some k → v.ownBlock = some k → False := fun x hx hxi h1 h2 => by
      rcases hv k h2 with h3 | h3
      · exact hxi (h.apart _ _ _ hx hi h1 h3)
      · exact h3 x hx h1
    by_cases e : a = i
    · by_cases e' : b = i
      · rw [e, e']
      · simp only [if_pos e] at hka
        simp only [if_neg e'] at hkb
        exact (aux b hb e' hkb hka).elim
    · simp only [if_neg e] at hka
      by_cases e' : b = i
      · simp only [if_pos e'] at hkb
        exact (aux a ha e hka hkb).elim
      · simp only [if_neg e'] at hkb
        exact h.apart _ _ _ ha hb hka hkb

/-- A file is made. -/
theorem DkRest.making (h : DkRest w own G m) {b : Nat} (hb : Whole w b 98 #[.int .i64 (m.made : Int), .slice none 0 0, .int .i64 0]) (hn : ¬ own b) :
    DkRest w (fun k => own k ∨ k = b) { G with loc := fun j => if j = m.made then b else G.loc j, row := fun j => if j = m.made then .slice none 0 0 else G.row j } { m with files := fun j => if j = m.made then ⟨[], 0⟩ else m.files j, made := m.made + 1 } := by
  have hinj : ∀ i j, i < m.made + 1 → j < m.made + 1 → (if i = m.made then b else G.loc i) = (if j = m.made then b else G.loc j) → i = j := fun i j hi hj e => by
    by_cases h1 : i = m.made
    · by_cases h2 : j = m.made
      · omega
      · rw [if_pos h1, if_neg h2] at e
        exact (hn (e ▸ h.ol j (by omega))).elim
    · by_cases h2 : j = m.made
      · rw [if_neg h1, if_pos h2] at e
        exact (hn (e ▸ h.ol i (by omega))).elim
      · rw [if_neg h1, if_neg h2] at e
        exact h.inj _ _ (by omega) (by omega) e
  have hloc : ∀ i, i < m.made → (if i = m.made then b else G.loc i) = G.loc i := fun i hi => if_neg (by omega)
  constructor
  · rintro k (hk | rfl)
    · exact h.lt k hk
    · exact hb.lt
  · exact map_reader h.names (ptrR_more hinj (Nat.le_succ _) hloc)
  · exact .inl h.on
  · exact map_reader h.kept (ptrR_more hinj (Nat.le_succ _) hloc)
  · exact .inl h.ok
  · exact h.nk
  · exact h.pend
  · exact fun k hk => .inl (h.op k hk)
  · exact fun i v c h1 h2 => (h.chs i v c h1 h2).stay (fun _ h => .inl h) (Nat.le_succ _) hloc fun _ _ _ _ _ _ => rfl
  · exact hinj
  · intro i hi
    by_cases e : i = m.made
    · simp only [if_pos e]
      subst e
      exact hb
    · simp only [if_neg e]
      exact h.cells i (by have : i < m.made + 1 := hi; omega)
  · intro i hi
    by_cases e : i = m.made
    · simp only [if_pos e]
      exact .inr trivial
    · simp only [if_neg e]
      exact .inl (h.ol i (by have : i < m.made + 1 := hi; omega))
  · intro i hi
    by_cases e : i = m.made
    · simp only [if_pos e]
      exact ⟨rfl, .inl ⟨rfl, rfl⟩⟩
    · simp only [if_neg e]
      exact h.rows i (by have : i < m.made + 1 := hi; omega)
  · intro i k hi hk
    by_cases e : i = m.made
    · simp only [if_pos e] at hk
      cases hk
    · simp only [if_neg e] at hk
      exact .inl (h.or i k (by have : i < m.made + 1 := hi; omega) hk)
  · intro i j k hi hj h1 h2
    by_cases e : i = m.made
    · simp only [if_pos e] at h1
      cases h1
    · by_cases e' : j = m.made
      · simp only [if_pos e'] at h2
        cases h2
      · simp only [if_neg e] at h1
        simp only [if_neg e'] at h2
        exact h.apart _ _ _ (by have : i < m.made + 1 := hi; omega) (by have : j < m.made + 1 := hj; omega) h1 h2
end

def dCells (m : Dk) (nb kb : Nat) (pv : Value) : Array Value :=
  #[.int .i64 m.most, .int .i64 (m.made : Int), .int .i64 m.used, .map (some nb), .map (some kb), pv, .int .i64 m.done, .int .i64 m.fail, .int .i64 m.cut, .bool m.down]
/-- A disk at block d, with blocks of its own. -/
structure DkAt (w : World) (d : Nat) (own : Nat → Prop) (G : Geo) (m : Dk) : Prop where
  rest : DkRest w own G m
  top : Whole w d 90 (dCells m G.nb G.kb G.pv)
  free : ¬ own d

/-- Behind a call: the disk is so; only what is its own has turned, and what is its own now was so, or is new. -/
def DkTo (w : World) (d : Nat) (own : Nat → Prop) (w' : World) (m' : Dk) : Prop :=
  ∃ own' G', DkAt w' d own' G' m' ∧ Spares (fun k => k = d ∨ own k) w w' ∧ ∀ k, own' k → own k ∨ w.heap.size ≤ k
section
variable {w w' w'' : World} {d : Nat} {own : Nat → Prop} {G : Geo} {m m' : Dk}
theorem DkAt.stay (h : DkAt w d own G m) (hs : ∀ k, k = d ∨ own k → w'.heap[k]? = w.heap[k]?) (hz : w.heap.size ≤ w'.heap.size) : DkAt w' d own G m :=
  ⟨h.rest.stay (fun k hk => hs k (.inr hk)) hz, h.top.same (hs d (.inl rfl)), h.free⟩
theorem DkAt.lt (h : DkAt w d own G m) {k : Nat} (hk : k = d ∨ own k) : k < w.heap.size := by
  rcases hk with rfl | hk
  · exact h.top.lt
  · exact h.rest.lt k hk
theorem DkAt.grow (h : DkAt w d own G m) (hg : Grows w w') : DkAt w' d own G m := h.stay (fun k hk => hg.block k (h.lt hk)) hg.size
theorem DkAt.spare (h : DkAt w d own G m) {oth : Nat → Prop} (hs : Spares oth w w') (hn : ∀ k, k = d ∨ own k → ¬ oth k) : DkAt w' d own G m := h.stay (fun k hk => hs.same k (h.lt hk) (hn k hk)) hs.size
/-- Only the disk's own block has turned. -/
theorem DkAt.retop (h : DkAt w d own G m) (ht : Whole w' d 90 (dCells m' G.nb G.kb G.pv)) (hs : Spares (fun k => k = d) w w')
    (h1 : m'.made = m.made) (h2 : m'.names = m.names) (h3 : m'.kept = m.kept) (h4 : m'.pend = m.pend) (h5 : m'.files = m.files) : DkAt w' d own G m' :=
  ⟨(h.rest.stay (fun k hk => hs.same k (h.rest.lt k hk) fun e => h.free (e ▸ hk)) hs.size).like h1 h2 h3 h4 h5, ht, h.free⟩
end
end Go.Proofs.Ytmfhpfehphbklaa
