/-
  Words for memory that the walks of this seat use: a slice that reads as a list of cells (a nil one too), a block whose cells are all known, an array of 256 numbers, bytes as cells. Plain theorems, over any program.
-/
import Derived.Below
import Derived.Laws.OwnMore
import Derived.Laws.Rows
import Derived.Laws.Tables
import Derived.Deep.Draws
import Derived.Deep.AppendLies
namespace Go.Proofs.Ytnnkioekjobbmaa
open Go.RowKit

theorem add_block (a : Addr) (n : Nat) : (a.add n).block = a.block := by
  unfold Addr.add
  split <;> rfl
theorem add_twice (a : Addr) (i j : Nat) : (a.add i).add j = a.add (i + j) := by
  rcases i with _ | i <;> rcases j with _ | j <;> simp [Addr.add, Nat.add_assoc]

/-- A slice that begins at A, below block B, has the cells xs. -/
structure Row (w : World) (B : Nat) (A : Option Addr) (n : Nat) (xs : List Value) : Prop where
  len : xs.length = n
  spot : ∀ k v, xs[k]? = some v → ∃ ad, A = some ad ∧ ad.block < B ∧ w.cell? (ad.add k) = some v

section
variable {w w' : World} {B B' n : Nat} {A : Option Addr} {xs : List Value}
theorem Row.nil (w : World) (B : Nat) (A : Option Addr) : Row w B A 0 [] := ⟨rfl, fun k v h => by simp at h⟩
theorem Row.carry (h : Row w B A n xs) (hk : ∀ p : Addr, p.block < B → w'.cell? p = w.cell? p) : Row w' B A n xs :=
  ⟨h.len, fun k v hv => by
    obtain ⟨ad, e, hb, hc⟩ := h.spot k v hv
    exact ⟨ad, e, hb, by rw [hk _ (by rw [add_block]; exact hb)]; exact hc⟩⟩
theorem Row.wider (h : Row w B A n xs) (hB : B ≤ B') : Row w B' A n xs :=
  ⟨h.len, fun k v hv => by
    obtain ⟨ad, e, hb, hc⟩ := h.spot k v hv
    exact ⟨ad, e, Nat.lt_of_lt_of_le hb hB, hc⟩⟩
theorem Row.below (h : Row w B A n xs) (hb : Below B w w') : Row w' B A n xs := h.carry fun _ hp => hb.cell hp
theorem Row.drewN (h : Row w B A n xs) (k : Nat) : Row (w.drewN k) B A n xs := ⟨h.len, h.spot⟩
theorem Row.alloc (h : Row w B A n xs) (hB : B ≤ w.heap.size) (o : Obj) : Row (w.alloc o) B A n xs :=
  h.carry fun p hp => World.cell?_alloc_lt w o p (by omega)
theorem Row.setCell (h : Row w B A n xs) {p : Addr} (hB : B ≤ p.block) (u : Value) : Row (w.setCell p u) B A n xs :=
  h.carry fun q hq => World.cell?_setCell_other w p q u (fun e => by rw [← e] at hq; omega)
theorem Row.grown (h : Row w B A n xs) {row : Option Nat} (hg : w.grownBy w' row) (hB : B ≤ w.heap.size) (hr : ∀ g, row = some g → B ≤ g) : Row w' B A n xs :=
  h.carry fun p hp => World.cell?_of_block (hg.block p.block (by omega) (fun e => by have := hr _ e.symm; omega))
theorem Row.first (h : Row w B A n xs) {k : Nat} (hk : k ≤ n) : Row w B A k (xs.take k) :=
  ⟨by rw [List.length_take, h.len]; omega, fun j v hv => h.spot j v (by
    rw [List.getElem?_take] at hv
    split at hv
    · exact hv
    · cases hv)⟩
theorem Row.behind (h : Row w B A n xs) {k cap : Nat} (hk : k ≤ n) (hc : n ≤ cap) : Row w B (if cap = k then A else A.map (·.add k)) (n - k) (xs.drop k) :=
  ⟨by rw [List.length_drop, h.len], fun j v hv => by
    rw [List.getElem?_drop] at hv
    obtain ⟨ad, e, hb, hcell⟩ := h.spot _ v hv
    have hl : k + j < xs.length := by
      rcases Nat.lt_or_ge (k + j) xs.length with hl | hl
      · exact hl
      · rw [List.getElem?_eq_none hl] at hv; cases hv
    rw [h.len] at hl
    subst e
    rw [if_neg (by omega)]
    exact ⟨ad.add k, rfl, by rw [add_block]; exact hb, by rw [add_twice]; exact hcell⟩⟩
theorem Row.owned {base : Nat} {e : TypeId} {c : Nat} (h : w.ownsRow base e 1 (.slice A n c) n xs) : Row w w.heap.size A n xs := by
  have hl : xs.length = n := by have := h.1; omega
  refine ⟨hl, fun k v hv => ?_⟩
  have hn : 0 < n := by
    rcases Nat.eq_zero_or_pos n with h0 | h0
    · have : xs = [] := List.eq_nil_of_length_eq_zero (by omega)
      subst this
      simp at hv
    · exact h0
  obtain ⟨g, cap, hval, _, hlt⟩ := h.form hn
  injection hval with hA _ _
  subst hA
  exact ⟨_, rfl, hlt, h.cells (g := g) rfl k v hv⟩
end

/-- Block g is just the cells cs, of type t, and all of them may be written. -/
def Whole (w : World) (g : Nat) (t : TypeId) (cs : Array Value) : Prop := w.heap[g]? = some (.cells cs t (0, 0))

section
variable {w w' : World} {g : Nat} {t : TypeId} {cs : Array Value}
theorem Whole.lt (h : Whole w g t cs) : g < w.heap.size := (Array.getElem?_eq_some_iff.1 h).1
theorem Whole.cell (h : Whole w g t cs) (i : Nat) : w.cell? ⟨g, i, none⟩ = cs[i]? := cell_of_row w g i cs t (0, 0) h
theorem Whole.free (h : Whole w g t cs) (i : Nat) : w.frozen? ⟨g, i, none⟩ = false := frozen_of_row w g i cs t h
theorem Whole.made (w : World) (t : TypeId) (cs : Array Value) : Whole (w.alloc (.cells cs t)) w.heap.size t cs := heap_alloc_new w _
theorem Whole.alloc (h : Whole w g t cs) (o : Obj) : Whole (w.alloc o) g t cs := by
  unfold Whole
  rw [heap_alloc_old w o g h.lt]
  exact h
theorem Whole.drewN (h : Whole w g t cs) (n : Nat) : Whole (w.drewN n) g t cs := h
theorem Whole.put (h : Whole w g t cs) (i : Nat) (u : Value) : Whole (w.setCell ⟨g, i, none⟩ u) g t (cs.setIfInBounds i u) := heap_setCell_same w g i cs t u h
theorem Whole.elsewhere (h : Whole w g t cs) {p : Addr} (hp : g ≠ p.block) (u : Value) : Whole (w.setCell p u) g t cs := by
  unfold Whole
  rw [heap_setCell_other w p g u hp]
  exact h
theorem Whole.below {B : Nat} (h : Whole w g t cs) (hb : Below B w w') (hg : g < B) : Whole w' g t cs := by
  unfold Whole
  rw [hb.block g hg]
  exact h
end

theorem below_setRow {B g : Nat} {a w : World} (h : Below B a w) (hg : B ≤ g) (cs : Array Value) : Below B a (w.setRow g cs) :=
  h.trans ⟨rfl, rfl, rfl, by simp, fun k hk => setRow_other w g k cs (by omega)⟩
theorem below_draws {B : Nat} {a w : World} (h : Below B a w) : (n : Nat) → Below B a (w.drewN n) := fun _ => ⟨h.os, h.tape, h.output, h.size, h.block⟩
theorem ret_int {k : IntKind} {a b : Int} (h : a = b) : Ending.returned (.int k a) = .returned (.int k b) := by rw [h]
theorem ret_bool {a b : Bool} (h : a = b) : Ending.returned (.bool a) = .returned (.bool b) := by rw [h]

/-- An array of 256 numbers of four bytes, as cells. -/
def arrV (f : Nat → Nat) : Array Value := ((List.range 256).map fun i => Value.int .u32 (f i : Nat)).toArray
theorem arrV_size (f : Nat → Nat) : (arrV f).size = 256 := by simp [arrV]
theorem arrV_get (f : Nat → Nat) (i : Nat) (h : i < 256) : (arrV f)[i]? = some (.int .u32 (f i : Nat)) := by
  simp [arrV, h]
theorem arrV_one (f : Nat → Nat) : (arrV f).all (·.oneCell') = true := by
  simp [arrV, Value.oneCell']
theorem arrV_ext {f g : Nat → Nat} (h : ∀ i, i < 256 → f i = g i) : arrV f = arrV g := by
  unfold arrV
  congr 1
  apply List.map_congr_left
  intro i hi
  rw [h i (by simpa using hi)]
theorem arrV_set (f g : Nat → Nat) (k v : Nat) (hk : k < 256) (h : ∀ i, i < 256 → g i = if i = k then v else f i) : (arrV f).setIfInBounds k (.int .u32 (v : Nat)) = arrV g := by
  apply Array.ext_getElem?
  intro i
  rw [Array.getElem?_setIfInBounds]
  by_cases hi : i < 256
  · rw [arrV_get g i hi, arrV_get f i hi, arrV_size, h i hi]
    by_cases e : k = i
    · subst e; simp [hk]
    · rw [if_neg e, if_neg (fun e' => e e'.symm)]
  · rw [if_neg (by omega), Array.getElem?_eq_none (by rw [arrV_size]; omega), Array.getElem?_eq_none (by rw [arrV_size]; omega)]

/-- Bytes, as cells. -/
def byteV (b : UInt8) : Value := .int .u8 (b.toNat : Nat)
/-- A slice that begins at A, below block B, reads as these bytes. -/
def Bytes (w : World) (B : Nat) (A : Option Addr) (n : Nat) (bs : List UInt8) : Prop := Row w B A n (bs.map byteV)
section
variable {w w' : World} {B B' n : Nat} {A : Option Addr} {bs : List UInt8}
theorem Bytes.len (h : Bytes w B A n bs) : bs.length = n := by have := Row.len h; simpa using this
theorem Bytes.spot (h : Bytes w B A n bs) {k : Nat} (hk : k < n) : ∃ ad, A = some ad ∧ ad.block < B ∧ w.cell? (ad.add k) = some (.int .u8 ((bs.getD k 0).toNat : Nat)) := by
  have hl := h.len
  refine Row.spot h k _ ?_
  rw [List.getElem?_map, List.getElem?_eq_getElem (by omega)]
  simp [byteV, show k < bs.length by omega]
theorem Bytes.carry (h : Bytes w B A n bs) (hk : ∀ p : Addr, p.block < B → w'.cell? p = w.cell? p) : Bytes w' B A n bs := Row.carry h hk
theorem Bytes.below (h : Bytes w B A n bs) (hb : Below B w w') : Bytes w' B A n bs := Row.below h hb
theorem Bytes.wider (h : Bytes w B A n bs) (hB : B ≤ B') : Bytes w B' A n bs := Row.wider h hB
theorem Bytes.alloc (h : Bytes w B A n bs) (hB : B ≤ w.heap.size) (o : Obj) : Bytes (w.alloc o) B A n bs := Row.alloc h hB o
theorem Bytes.drewN (h : Bytes w B A n bs) (k : Nat) : Bytes (w.drewN k) B A n bs := Row.drewN h k
theorem Bytes.first (h : Bytes w B A n bs) {k : Nat} (hk : k ≤ n) : Bytes w B A k (bs.take k) := by
  unfold Bytes
  rw [List.map_take]
  exact Row.first h hk
theorem Bytes.nil (w : World) (B : Nat) (A : Option Addr) : Bytes w B A 0 [] := Row.nil w B A
end
theorem Pu : (∀ (a : Act) (i : Nat) (v : Value), a.put (some i) v = { a with tmps := a.tmps.setIfInBounds i v }) ∧ (∀ (a : Act) (v : Value), a.put none v = a) ∧ (∀ (l : List Value) (i : Nat) (v : Value), l.toArray.setIfInBounds i v = (l.set i v).toArray) ∧ (∀ (x : Value) (l : List Value) (v : Value), (x :: l).set 0 v = v :: l) ∧ (∀ (x : Value) (l : List Value) (n : Nat) (v : Value), (x :: l).set (n + 1) v = x :: l.set n v) := ⟨fun _ _ _ => rfl, fun _ _ => rfl, fun _ _ _ => by simp, fun _ _ _ => rfl, fun _ _ _ _ => rfl⟩
theorem Gt : (∀ (l : List Value) (i : Nat), l.toArray[i]? = l[i]?) ∧ (∀ (x : Value) (l : List Value), (x :: l)[0]? = some x) ∧ (∀ (x : Value) (l : List Value) (i : Nat), (x :: l)[i + 1]? = l[i]?) := ⟨fun _ _ => List.getElem?_toArray .., fun _ _ => rfl, fun _ _ _ => rfl⟩
end Go.Proofs.Ytnnkioekjobbmaa
