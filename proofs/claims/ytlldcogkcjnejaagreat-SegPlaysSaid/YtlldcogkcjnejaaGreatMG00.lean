import Derived.Below
import Derived.Laws.OwnMore
import Derived.Laws.Rows
import Derived.Laws.Tables
import Derived.Deep.Draws
import Derived.Deep.AppendLies
import Derived.Deep.QuietTactic
import Derived.WalkKit
import Derived.Laws.BitsAllLaws
import Derived.KernelRfl
import Derived.Maps.AppendAt
import Derived.Laws.AppendOwnNone
import Derived.Test.YtlldcogkcjnejaaGreatRows
import Derived.Laws.MakeOwn
import Derived.Laws.AppendOwn
namespace Go.Proofs.YtlldcogkcjnejaaGreat
open Go.RowKit
theorem Z4 (a : Addr) (n : Nat) : (a.add n).block = a.block := by
 unfold Addr.add
 split <;> rfl
theorem J5 (a : Addr) (i j : Nat) : (a.add i).add j = a.add (i + j) := by
 rcases i with _ | i <;> rcases j with _ | j <;> simp [Addr.add, Nat.add_assoc]
structure Row (w : World) (B : Nat) (A : Option Addr) (n : Nat) (xs : List Value) : Prop where
 len : xs.length = n
 spot : ∀ k v, xs[k]? = some v → ∃ ad, A = some ad ∧ ad.block < B ∧ w.cell? (ad.add k) = some v
section
variable {w w' : World} {B B' n : Nat} {A : Option Addr} {xs : List Value}
theorem Row.nil (w : World) (B : Nat) (A : Option Addr) : Row w B A 0 [] := ⟨rfl, fun k v h => by simp at h⟩
theorem Row.carry (h : Row w B A n xs) (hk : ∀ p : Addr, p.block < B → w'.cell? p = w.cell? p) : Row w' B A n xs :=
 ⟨h.len, fun k v hv => by
  obtain ⟨ad, e, hb, hc⟩ := h.spot k v hv
  exact ⟨ad, e, hb, by rw [hk _ (by rw [Z4]; exact hb)]; exact hc⟩⟩
theorem Row.wider (h : Row w B A n xs) (hB : B ≤ B') : Row w B' A n xs :=
 ⟨h.len, fun k v hv => by
  obtain ⟨ad, e, hb, hc⟩ := h.spot k v hv
  exact ⟨ad, e, Nat.lt_of_lt_of_le hb hB, hc⟩⟩
theorem Row.below (h : Row w B A n xs) (hb : Below B w w') : Row w' B A n xs := h.carry fun _ hp => hb.cell hp
theorem Row.alloc (h : Row w B A n xs) (hB : B ≤ w.heap.size) (o : Obj) : Row (w.alloc o) B A n xs :=
 h.carry fun p hp => World.cell?_alloc_lt w o p (by omega)
theorem Row.first (h : Row w B A n xs) {k : Nat} (hk : k ≤ n) : Row w B A k (xs.take k) :=
 ⟨by rw [List.length_take, h.len]; omega, fun j v hv => h.spot j v (by
  rw [List.getElem?_take] at hv
  split at hv
  ·exact hv
  ·cases hv)⟩
theorem Row.behind (h : Row w B A n xs) {k cap : Nat} (hk : k ≤ n) (hc : n ≤ cap) : Row w B (if cap = k then A else A.map (·.add k)) (n - k) (xs.drop k) :=
 ⟨by rw [List.length_drop, h.len], fun j v hv => by
  rw [List.getElem?_drop] at hv
  obtain ⟨ad, e, hb, hcell⟩ := h.spot _ v hv
  have hl : k + j < xs.length := by
   rcases Nat.lt_or_ge (k + j) xs.length with hl | hl
   ·exact hl
   ·rw [List.getElem?_eq_none hl] at hv; cases hv
  rw [h.len] at hl
  subst e
  rw [if_neg (by omega)]
  exact ⟨ad.add k, rfl, by rw [Z4]; exact hb, by rw [J5]; exact hcell⟩⟩
theorem Row.owned {base : Nat} {e : TypeId} {c : Nat} (h : w.ownsRow base e 1 (.slice A n c) n xs) : Row w w.heap.size A n xs := by
 have hl : xs.length = n := by have := h.1; omega
 refine ⟨hl, fun k v hv => ?_⟩
 have hn : 0 < n := by
  rcases Nat.eq_zero_or_pos n with h0 | h0
  ·have : xs = [] := List.eq_nil_of_length_eq_zero (by omega)
   subst this
   simp at hv
  ·exact h0
 obtain ⟨g, cap, hval, _, hlt⟩ := h.form hn
 injection hval with hA _ _
 subst hA
 exact ⟨_, rfl, hlt, h.cells (g := g) rfl k v hv⟩
end
def Whole (w : World) (g : Nat) (t : TypeId) (cs : Array Value) : Prop := w.heap[g]? = some (.cells cs t (0, 0))
section
variable {w w' : World} {g : Nat} {t : TypeId} {cs : Array Value}
theorem Whole.lt (h : Whole w g t cs) : g < w.heap.size := (Array.getElem?_eq_some_iff.1 h).1
theorem Whole.cell (h : Whole w g t cs) (i : Nat) : w.cell? ⟨g, i, none⟩ = cs[i]? := cell_of_row w g i cs t (0, 0) h
theorem Whole.free (h : Whole w g t cs) (i : Nat) : w.frozen? ⟨g, i, none⟩ = false := frozen_of_row w g i cs t h
theorem Whole.made (w : World) (t : TypeId) (cs : Array Value) : Whole (w.alloc (.cells cs t)) w.heap.size t cs := heap_alloc_new w _
theorem Whole.alloc (h : Whole w g t cs) (o : Obj) : Whole (w.alloc o) g t cs := by
 unfold Whole
 rw [heap_alloc_old w o (h := h.lt)]
 exact h
theorem Whole.put (h : Whole w g t cs) (i : Nat) (u : Value) : Whole (w.setCell ⟨g, i, none⟩ u) g t (cs.setIfInBounds i u) := heap_setCell_same w g i cs t u h
theorem Whole.elsewhere (h : Whole w g t cs) {p : Addr} (hp : g ≠ p.block) (u : Value) : Whole (w.setCell p u) g t cs := by
 unfold Whole
 rw [heap_setCell_other w p g u hp]
 exact h
theorem Whole.below {B : Nat} (h : Whole w g t cs) (hb : Below B w w') (hg : g < B) : Whole w' g t cs := by
 unfold Whole
 rw [hb.block g hg]
 exact h
end
theorem Zc2 {B g : Nat} {a w : World} (h : Below B a w) (hg : B ≤ g) (cs : Array Value) : Below B a (w.setRow g cs) :=
 h.trans ⟨rfl, rfl, rfl, by simp, fun k hk => setRow_other w g k cs (by omega)⟩
theorem Za1 {k : IntKind} {a b : Int} (h : a = b) : Ending.returned (.int k a) = .returned (.int k b) := by rw [h]
theorem Z5 {a b : Bool} (h : a = b) : Ending.returned (.bool a) = .returned (.bool b) := by rw [h]
def arrV (f : Nat → Nat) : Array Value := ((List.range 256).map fun i => Value.int .u32 (f i : Nat)).toArray
theorem Y4 (f : Nat → Nat) : (arrV f).size = 256 := by simp [arrV]
theorem Zda (f : Nat → Nat) (i : Nat) (h : i < 256) : (arrV f)[i]? = some (.int .u32 (f i : Nat)) := by
 simp [arrV, h]
theorem Zot (f : Nat → Nat) : (arrV f).all (·.oneCell') = true := by
 simp [arrV, Value.oneCell']
theorem Zou {f g : Nat → Nat} (h : ∀ i, i < 256 → f i = g i) : arrV f = arrV g := by
 unfold arrV
 congr 1
 apply List.map_congr_left
 intro i hi
 rw [h i (by simpa using hi)]
theorem Zov (f g : Nat → Nat) (k v : Nat) (hk : k < 256) (h : ∀ i, i < 256 → g i = if i = k then v else f i) : (arrV f).setIfInBounds k (.int .u32 (v : Nat)) = arrV g := by
 apply Array.ext_getElem?
 intro i
 rw [Array.getElem?_setIfInBounds]
 by_cases hi : i < 256
 ·rw [Zda g i hi, Zda f i hi, Y4, h i hi]
  by_cases e : k = i
  ·subst e; simp [hk]
  ·rw [if_neg e, if_neg (fun e' => e e'.symm)]
 ·rw [if_neg (by omega), Array.getElem?_eq_none (by rw [Y4]; omega), Array.getElem?_eq_none (by rw [Y4]; omega)]
def byteV (b : UInt8) : Value := .int .u8 (b.toNat : Nat)
def Bytes (w : World) (B : Nat) (A : Option Addr) (n : Nat) (bs : List UInt8) : Prop := Row w B A n (bs.map byteV)
section
variable {w w' : World} {B B' n : Nat} {A : Option Addr} {bs : List UInt8}
theorem Bytes.len (h : Bytes w B A n bs) : bs.length = n := by have := Row.len h; simpa using this
theorem Bytes.spot (h : Bytes w B A n bs) {k : Nat} (hk : k < n) : ∃ ad, A = some ad ∧ ad.block < B ∧ w.cell? (ad.add k) = some (.int .u8 ((bs.getD k 0).toNat : Nat)) := by
 have hl := h.len
 refine Row.spot h k _ ?_
 rw [List.getElem?_map, List.getElem?_eq_getElem (by omega)]
 simp [byteV, show k < bs.length by omega]
theorem Bytes.carry (h : Bytes w B A n bs) (hk : ∀ p : Addr, p.block < B → w'.cell? p = w.cell? p) : Bytes w' B A n bs := Row.carry h hk
theorem Bytes.below (h : Bytes w B A n bs) (hb : Below B w w') : Bytes w' B A n bs := Row.below h hb
theorem Bytes.wider (h : Bytes w B A n bs) (hB : B ≤ B') : Bytes w B' A n bs := Row.wider h hB
theorem Bytes.alloc (h : Bytes w B A n bs) (hB : B ≤ w.heap.size) (o : Obj) : Bytes (w.alloc o) B A n bs := Row.alloc h hB o
theorem Bytes.first (h : Bytes w B A n bs) {k : Nat} (hk : k ≤ n) : Bytes w B A k (bs.take k) := by
 unfold Bytes
 rw [List.map_take]
 exact Row.first h hk
theorem Bytes.nil (w : World) (B : Nat) (A : Option Addr) : Bytes w B A 0 [] := Row.nil w B A
end
theorem Pu : (∀ (a : Act) (i : Nat) (v : Value), a.put (some i) v = { a with tmps := a.tmps.setIfInBounds i v }) ∧ (∀ (a : Act) (v : Value), a.put none v = a) ∧ (∀ (l : List Value) (i : Nat) (v : Value), l.toArray.setIfInBounds i v = (l.set i v).toArray) ∧ (∀ (x : Value) (l : List Value) (v : Value), (x :: l).set 0 v = v :: l) ∧ (∀ (x : Value) (l : List Value) (n : Nat) (v : Value), (x :: l).set (n + 1) v = x :: l.set n v) := ⟨fun _ _ _ => rfl, fun _ _ => rfl, fun _ _ _ => by simp, fun _ _ _ => rfl, fun _ _ _ _ => rfl⟩
theorem Gt : (∀ (l : List Value) (i : Nat), l.toArray[i]? = l[i]?) ∧ (∀ (x : Value) (l : List Value), (x :: l)[0]? = some x) ∧ (∀ (x : Value) (l : List Value) (i : Nat), (x :: l)[i + 1]? = l[i]?) := ⟨fun _ _ => List.getElem?_toArray .., fun _ _ => rfl, fun _ _ _ => rfl⟩
def Grows (w w' : World) : Prop := Below w.heap.size w w'
theorem Grows.refl (w : World) : Grows w w := Below.refl _ _
theorem Grows.trans {a b c : World} (h : Grows a b) (k : Grows b c) : Grows a c := Below.trans h (Below.mono k h.size)
theorem Grows.whole {w w' : World} {g t : Nat} {cs : Array Value} (hb : Grows w w') (h : Whole w g t cs) : Whole w' g t cs := Whole.below h hb h.lt
theorem Grows.row {w w' : World} {n : Nat} {A : Option Addr} {xs : List Value} (hb : Grows w w') (h : Row w w.heap.size A n xs) : Row w' w'.heap.size A n xs := Row.wider (Row.below h hb) hb.size
theorem Grows.bytes {w w' : World} {n : Nat} {A : Option Addr} {bs : List UInt8} (hb : Grows w w') (h : Bytes w w.heap.size A n bs) : Bytes w' w'.heap.size A n bs := Bytes.wider (Bytes.below h hb) hb.size
section
variable {P : Program} {ops : Array Oper} {C : World → Prop} {Q : Act → Prop} {o : Oper} {rest : List Oper} {a : Act}
theorem q_op (v : Value) (hw : Region.wanted o (yielded ops a.tmps) = true) (h1 : ∀ w, C w → (execOp a.eval o).run P w = .ok (.value v) w) (h2 : wpQuiet P ops C Q rest (a.put o.dst v)) : wpQuiet P ops C Q (o :: rest) a := by
 unfold wpQuiet
 rw [if_pos hw]
 refine ⟨v, fun w hC => ?_, h2⟩
 unfold Oper.quietAt
 rw [h1 w hC]
 exact ⟨rfl, rfl⟩
theorem q_op' {v : Value} {a' : Act} (hw : Region.wanted o (yielded ops a.tmps) = true) (h1 : ∀ w, C w → (execOp a.eval o).run P w = .ok (.value v) w) (ha : a.put o.dst v = a') (h2 : wpQuiet P ops C Q rest a') : wpQuiet P ops C Q (o :: rest) a := by
 subst ha
 exact q_op v hw h1 h2
theorem Zbk {a' : Act} (hw : Region.wanted o (yielded ops a.tmps) = false) (ha : a.put o.dst undef = a') (h2 : wpQuiet P ops C Q rest a') : wpQuiet P ops C Q (o :: rest) a := by
 subst ha
 unfold wpQuiet
 rw [if_neg (by simp [hw])]
 exact h2
theorem Ze0 (f : FuncId) (args : Array Value) (v : Value) (hw : Region.wanted o (yielded ops a.tmps) = true) (h1 : ∀ w, C w → (execOp a.eval o).run P w = .ok (.enter f args) w)
 (hc : ∀ w, C w → Calls P f args w fun e w' => e = .returned v ∧ C w') (h2 : wpQuiet P ops C Q rest (a.put o.dst v)) : wpQuiet P ops C Q (o :: rest) a := by
 unfold wpQuiet
 rw [if_pos hw]
 refine ⟨v, fun w hC => ?_, h2⟩
 unfold Oper.quietAt
 rw [h1 w hC]
 exact ⟨rfl, hc w hC⟩
theorem Zje (hw : Region.wanted o (yielded ops a.tmps) = false) (h2 : wpQuiet P ops C Q rest (a.put o.dst undef)) : wpQuiet P ops C Q (o :: rest) a := by
 unfold wpQuiet
 rw [if_neg (by simp [hw])]
 exact h2
end
theorem Zo {P : Program} {id : Nat} {Q : Exit → Act → World → Prop} {a : Act} {w : World} {l : List Oper} (hm : P.follows .mixedOrders = true) (hB : Region.lexB .any l.toArray = true)
 (h : wpQuiet P l.toArray (Grows w) (fun a' => ∀ w', Grows w w' → Q .normal a' w') l a) : (Code.region id l.toArray true).wp P Q a w :=
 wp_region_quiet (C := Grows w) hm hB (show Below w.heap.size w { w with drawn := w.drawn + 1 } from ⟨rfl, rfl, rfl, Nat.le_refl _, fun _ _ => rfl⟩) (by simpa using h)
theorem Zqk (x y : Nat) (hx : x < 256) (hy : y < 256) : bits BinOp.xor IntKind.u8 (x : Int) (y : Int) = ((x ^^^ y : Nat) : Int) := by
 have hxy : x ^^^ y < 2 ^ 8 := Nat.xor_lt_two_pow (by omega) (by omega)
 have h1 : ∀ z : Nat, z < 256 → (BitVec.ofInt 8 (z : Int)).toNat = z := fun z hz => by
  rw [BitVec.ofInt_natCast, BitVec.toNat_ofNat]; exact Nat.mod_eq_of_lt (by omega)
 show IntKind.u8.wrap ((BitVec.ofInt 8 (x : Int) ^^^ BitVec.ofInt 8 (y : Int)).toNat : Int) = _
 rw [BitVec.toNat_xor, h1 x hx, h1 y hy, IntKind.wrap_u8']
 omega
structure Fact (E : World → World → Prop) where
 α : Type
 x0 : α
 val : α → Value
 R : α → World → Prop
 stays : ∀ x w w', R x w → E w w' → R x w'
abbrev Known := List (Option Tmp × (World → Prop))
def Known.all (ks : Known) (w : World) : Prop := ∀ k ∈ ks, k.2 w
def Known.for (ks : Known) (ls : List Tmp) (w : World) : Prop := ∀ k ∈ ks, (∃ d, k.1 = some d ∧ d ∈ ls) → k.2 w
theorem Known.all_for {ks : Known} {ls : List Tmp} {w : World} (h : ks.all w) : ks.for ls w := fun k hk _ => h k hk
section
variable {P : Program} {ops : Array Oper} {md : Region.Mode} {E : World → World → Prop} {W : World}
def Zbi (P : Program) (F : Fact E) (w : World) : Result Next → Prop
 | .ok (.value u) w' => E w w' ∧ ∃ x, u = F.val x ∧ F.R x w'
 | .ok .skip w' => E w w' ∧ ∃ x, undef = F.val x ∧ F.R x w'
 | .ok (.enter f args) w' => Calls P f args w' fun e w'' => E w w'' ∧ ∃ x, e = .returned (F.val x) ∧ F.R x w''
 | _ => False
def gives (P : Program) (F : Fact E) (o : Oper) (ρ : Operand → Value) (w : World) : Prop := Zbi P F w ((execOp ρ o).run P w)
def fStep (P : Program) (ops : Array Oper) (E : World → World → Prop) (W : World) (F : Fact E) (o : Oper) (K : Known → Act → Prop) (ks : Known) (a : Act) : Prop :=
 if Region.wanted o (yielded ops a.tmps) then (∀ w, E W w → ks.for (o.looksAt ops) w → gives P F o a.eval w) ∧ ∀ x, K ((o.dst, F.R x) :: ks) (a.put o.dst (F.val x)) else K ks (a.put o.dst undef)
def fOp (P : Program) (ops : Array Oper) (E : World → World → Prop) (W : World) (Fs : Nat → Fact E) (i : Nat) (K : Known → Act → Prop) (ks : Known) (a : Act) : Prop :=
 match ops[i]? with
 | none => K ks a
 | some o => fStep P ops E W (Fs i) o K ks a
theorem Zey {F : Fact E} {o : Oper} {K K' : Known → Act → Prop} {ks : Known} {a : Act} (h : ∀ ks a, K ks a → K' ks a) (hh : fStep P ops E W F o K ks a) : fStep P ops E W F o K' ks a := by
 unfold fStep at *
 split
 ·rename_i hw; simp only [hw, if_true] at hh; exact ⟨hh.1, fun x => h _ _ (hh.2 x)⟩
 ·rename_i hw; simp only [hw] at hh; exact h _ _ hh
def wpF (P : Program) (ops : Array Oper) (E : World → World → Prop) (W : World) (Q : Act → World → Prop) : List Oper → List (Fact E) → Known → Act → Prop
 | [], _, ks, a => ∀ w, E W w → ks.all w → Q a w
 | _ :: _, [], _, _ => False
 | o :: rest, F :: Fs, ks, a => fStep P ops E W F o (wpF P ops E W Q rest Fs) ks a
def Zbj (P : Program) (md : Region.Mode) (ops : Array Oper) (E : World → World → Prop) (W : World) (Fs : Nat → Fact E) (Q : Act → World → Prop) : Nat → Array Bool → Known → Act → Prop
 | 0, listed, ks, a => Region.ready md ops listed = [] ∧ ∀ w, E W w → ks.all w → Q a w
 | fuel + 1, listed, ks, a =>
   (Region.ready md ops listed = [] → ∀ w, E W w → ks.all w → Q a w) ∧
   ∀ i ∈ Region.ready md ops listed, fOp P ops E W Fs i (Zbj P md ops E W Fs Q fuel (listed.setIfInBounds i true)) ks a
theorem Za0 {Fs : Nat → Fact E} {Q : Act → World → Prop} : ∀ (fuel : Nat) (listed : Array Bool) (ks ks' : Known) (a : Act), (∀ k ∈ ks, k ∈ ks') → Zbj P md ops E W Fs Q fuel listed ks a → Zbj P md ops E W Fs Q fuel listed ks' a
 | 0, _, _, _, _, hk, h => ⟨h.1, fun w hw ha => h.2 w hw fun k hk' => ha k (hk k hk')⟩
 | fuel + 1, listed, ks, ks', a, hk, h => by
   refine ⟨fun h0 w hw ha => h.1 h0 w hw fun k hk' => ha k (hk k hk'), fun i hi => ?_⟩
   have h1 := h.2 i hi
   unfold fOp at *
   split
   ·rename_i ho; simp only [ho] at h1; exact Za0 fuel _ ks ks' a hk h1
   ·rename_i o ho
    simp only [ho] at h1
    unfold fStep at *
    split
    ·rename_i hw
     simp only [hw, if_true] at h1
     refine ⟨fun w hw' hf => h1.1 w hw' fun k hk' => hf k (hk k hk'), fun x => Za0 fuel _ _ _ _ (fun k hk' => ?_) (h1.2 x)⟩
     rcases List.mem_cons.1 hk' with rfl | hk'
     ·exact List.mem_cons_self
     ·exact List.mem_cons_of_mem _ (hk k hk')
    ·rename_i hw
     simp only [hw] at h1
     exact Za0 fuel _ ks ks' _ hk h1
theorem Zb4 {ks : Known} {d : Option Tmp} {R : World → Prop} {ls : List Tmp} {w : World} (hd : ∀ t, d = some t → t ∉ ls) (h : ks.for ls w) : Known.for ((d, R) :: ks) ls w := fun k hk hd' => by
 rcases List.mem_cons.1 hk with rfl | hk
 ·obtain ⟨t, h1, h2⟩ := hd'
  exact absurd h2 (hd t h1)
 ·exact h k hk hd'
theorem Zcr {ks : Known} {p : Option Tmp × (World → Prop)} {ls : List Tmp} {w : World} (h : Known.for (p :: ks) ls w) : ks.for ls w := fun k hk hd => h k (List.mem_cons_of_mem _ hk) hd
theorem Zcs (p q : Option Tmp × (World → Prop)) (ks : Known) : ∀ k ∈ p :: q :: ks, k ∈ q :: p :: ks := fun k hk => by
 simp only [List.mem_cons] at *
 rcases hk with h | h | h
 ·exact .inr (.inl h)
 ·exact .inl h
 ·exact .inr (.inr h)
theorem Zg2 {Fs : Nat → Fact E} {Q : Act → World → Prop} {i : Nat} {oi : Oper} (hi : ops[i]? = some oi) (hsel : ∀ (j : Nat) (o : Oper) cs b, ops[j]? = some o → o.op ≠ .select cs b) :
 ∀ (fuel : Nat) (listed : Array Bool) (ks : Known) (a : Act),
  (∀ j oj, ops[j]? = some oj → j ≠ i → listed.getD j true = false → (∀ e ∈ oj.after, Region.binds md e = true → e.on ≠ i) → oi.apart ops oj = true) →
  i ∈ Region.ready md ops listed → fStep P ops E W (Fs i) oi (Zbj P md ops E W Fs Q fuel (listed.setIfInBounds i true)) ks a → Zbj P md ops E W Fs Q (fuel + 1) listed ks a := by
 intro fuel
 induction fuel with
 | zero =>
   intro listed ks a _ hr H
   refine ⟨fun h => (by rw [h] at hr; cases hr), fun j hj => ?_⟩
   by_cases hji : j = i
   ·subst hji; unfold fOp; simp only [hi]; exact H
   ·have := ready_mono hj hji
    have hnil : Region.ready md ops (listed.setIfInBounds i true) = [] := by
     unfold fStep at H
     split at H
     ·exact (H.2 (Fs i).x0).1
     ·exact H.1
    rw [hnil] at this
    cases this
 | succ fuel ih =>
   intro listed ks a hfree hr H
   refine ⟨fun h => (by rw [h] at hr; cases hr), fun j hj => ?_⟩
   by_cases hji : j = i
   ·subst hji; unfold fOp; simp only [hi]; exact H
   ·have hjr := ready_mono hj hji
    obtain ⟨hjun, oj, hoj, hall⟩ := mem_ready.1 hj
    have hnot : ∀ e ∈ oj.after, Region.binds md e = true → e.on ≠ i := fun e he hb heq => by
     have h1 := hall e he hb
     have h0 := (mem_ready.1 hr).1
     rw [heq] at h1
     rcases Nat.lt_or_ge i listed.size with h' | h'
     ·simp [h'] at h0 h1; rw [h0] at h1; cases h1
     ·simp [Array.getElem?_eq_none h'] at h1
    have hap := hfree j oj hoj hji hjun hnot
    obtain ⟨p1, p2, p3⟩ := Oper.apart_spec hap
    have hsi := fun cs b => hsel i oi cs b hi
    have hsj := fun cs b => hsel j oj cs b hoj
    have hfree' : ∀ k ok, ops[k]? = some ok → k ≠ i → (listed.setIfInBounds j true).getD k true = false →
     (∀ e ∈ ok.after, Region.binds md e = true → e.on ≠ i) → oi.apart ops ok = true := fun k ok hk hki hun hno => by
     refine hfree k ok hk hki ?_ hno
     by_cases hjk : j = k
     ·subst hjk; exact hjun
     ·rw [getD_set_ne true hjk] at hun; exact hun
    have hri := ready_mono hr (Ne.symm hji)
    unfold fOp
    simp only [hoj]
    -- what is done behind j, i being done first
    by_cases hwi : Region.wanted oi (yielded ops a.tmps) = true
    ·unfold fStep at H
     simp only [hwi, if_true] at H
     obtain ⟨hgi, hK⟩ := H
     have hJ : ∀ x, fStep P ops E W (Fs j) oj (Zbj P md ops E W Fs Q fuel ((listed.setIfInBounds i true).setIfInBounds j true)) ((oi.dst, (Fs i).R x) :: ks) (a.put oi.dst ((Fs i).val x)) := fun x => by
      have := (hK x).2 j hjr
      unfold fOp at this
      simp only [hoj] at this
      exact this
     unfold fStep
     by_cases hwj : Region.wanted oj (yielded ops a.tmps) = true
     ·simp only [hwj, if_true]
      have hJ' : ∀ x, (∀ w, E W w → Known.for ((oi.dst, (Fs i).R x) :: ks) (oj.looksAt ops) w → gives P (Fs j) oj (a.put oi.dst ((Fs i).val x)).eval w) ∧
       ∀ y, Zbj P md ops E W Fs Q fuel ((listed.setIfInBounds i true).setIfInBounds j true) ((oj.dst, (Fs j).R y) :: (oi.dst, (Fs i).R x) :: ks) ((a.put oi.dst ((Fs i).val x)).put oj.dst ((Fs j).val y)) := fun x => by
       have := hJ x
       unfold fStep at this
       rw [wanted_put oj a oi.dst _ p1] at this
       simp only [hwj, if_true] at this
       exact this
      refine ⟨fun w hw hf => ?_, fun y => ih _ _ _ hfree' hri ?_⟩
      ·have := (hJ' (Fs i).x0).1 w hw (Zb4 p1 hf)
       unfold gives at *
       rwa [execOp_put oj hsj a oi.dst _ p1] at this
      ·unfold fStep
       rw [wanted_put oi a oj.dst _ p3]
       simp only [hwi, if_true]
       refine ⟨fun w hw hf => ?_, fun x => ?_⟩
       ·have := hgi w hw (Zcr hf)
        unfold gives at *
        rwa [execOp_put oi hsi a oj.dst _ p3]
       ·have := (hJ' x).2 y
        rw [Array.setIfInBounds_comm _ _ hji, ← Act.put_comm a _ _ p2]
        exact Za0 _ _ _ _ _ (Zcs _ _ _) this
     ·simp only [hwj]
      have hJ' : ∀ x, Zbj P md ops E W Fs Q fuel ((listed.setIfInBounds i true).setIfInBounds j true) ((oi.dst, (Fs i).R x) :: ks) ((a.put oi.dst ((Fs i).val x)).put oj.dst undef) := fun x => by
       have := hJ x
       unfold fStep at this
       rw [wanted_put oj a oi.dst _ p1] at this
       simp only [hwj] at this
       exact this
      refine ih _ _ _ hfree' hri ?_
      unfold fStep
      rw [wanted_put oi a oj.dst _ p3]
      simp only [hwi, if_true]
      refine ⟨fun w hw hf => ?_, fun x => ?_⟩
      ·have := hgi w hw hf
       unfold gives at *
       rwa [execOp_put oi hsi a oj.dst _ p3]
      ·rw [Array.setIfInBounds_comm _ _ hji, ← Act.put_comm a _ _ p2]
       exact hJ' x
    ·unfold fStep at H
     simp only [hwi] at H
     have hJ : fStep P ops E W (Fs j) oj (Zbj P md ops E W Fs Q fuel ((listed.setIfInBounds i true).setIfInBounds j true)) ks (a.put oi.dst undef) := by
      have := H.2 j hjr
      unfold fOp at this
      simp only [hoj] at this
      exact this
     unfold fStep at *
     rw [wanted_put oj a oi.dst _ p1] at hJ
     by_cases hwj : Region.wanted oj (yielded ops a.tmps) = true
     ·simp only [hwj, if_true] at *
      refine ⟨fun w hw hf => ?_, fun y => ih _ _ _ hfree' hri ?_⟩
      ·have := hJ.1 w hw hf
       unfold gives at *
       rwa [execOp_put oj hsj a oi.dst _ p1] at this
      ·rw [wanted_put oi a oj.dst _ p3]
       simp only [hwi]
       have := hJ.2 y
       rw [Array.setIfInBounds_comm _ _ hji, ← Act.put_comm a _ _ p2]
       exact this
     ·simp only [hwj] at *
      refine ih _ _ _ hfree' hri ?_
      rw [wanted_put oi a oj.dst _ p3]
      simp only [hwi]
      rw [Array.setIfInBounds_comm _ _ hji, ← Act.put_comm a _ _ p2]
      exact hJ
theorem Zez {Fs : Nat → Fact E} {Q : Act → World → Prop} (hs : Region.noSelect ops = true) : ∀ (l : List Oper) (k : Nat) (fs : List (Fact E)) (listed : Array Bool) (ks : Known) (a : Act), (∀ j, l[j]? = ops[k + j]?) →
 (∀ j F, fs[j]? = some F → Fs (k + j) = F) → Region.lexFrom md ops l.length k listed = true → wpF P ops E W Q l fs ks a → Zbj P md ops E W Fs Q l.length listed ks a
 | [], _, _, _, _, _, _, _, hB, h => ⟨by simpa [Region.lexFrom] using hB, h⟩
 | o :: l, k, [], listed, ks, a, hl, hF, hB, h => h.elim
 | o :: l, k, F :: fs, listed, ks, a, hl, hF, hB, h => by
   have h0 : ops[k]? = some o := by simpa using (hl 0).symm
   have hF0 : Fs k = F := by simpa using hF 0 F rfl
   simp only [List.length_cons, Region.lexFrom, Bool.and_eq_true] at hB
   obtain ⟨⟨hr, hf⟩, hB'⟩ := hB
   refine Zg2 h0 (Region.noSelect_spec hs) l.length listed ks a (Region.free_spec h0 hf) (by simpa using hr) ?_
   rw [hF0]
   exact Zey (fun ks a h => Zez hs l (k + 1) fs _ ks a (fun j => by have := hl (j + 1); simpa [Nat.add_assoc, Nat.add_comm 1 j] using this)
    (fun j F' hj => by have := hF (j + 1) F' (by simpa using hj); simpa [Nat.add_assoc, Nat.add_comm 1 j] using this) hB' h) h
theorem Jj {Fs : Nat → Fact E} {Q : Act → World → Prop} {Q' : Exit → Act → World → Prop} (ht : ∀ a b c, E a b → E b c → E a c) (hQ : ∀ a w, Q a w → Q' .normal a w) :
 ∀ (fuel : Nat) (listed : Array Bool) (ks : Known) (a : Act) (w : World), E W w → ks.all w → (∀ k ∈ ks, ∀ w w', k.2 w → E w w' → k.2 w') → Zbj P md ops E W Fs Q fuel listed ks a → wpAny P md ops Q' fuel listed a w
 | 0, _, ks, _, w, hw, ha, _, h => ⟨h.1, hQ _ _ (h.2 w hw ha)⟩
 | fuel + 1, listed, ks, a, w, hw, ha, hst, h => by
   refine ⟨fun h0 => hQ _ _ (h.1 h0 w hw ha), fun i hi => ?_⟩
   have h1 := h.2 i hi
   unfold fOp at h1
   unfold wpOp
   split
   ·rename_i ho; simp only [ho] at h1; exact Jj ht hQ fuel _ ks a w hw ha hst h1
   ·rename_i o ho
    simp only [ho] at h1
    unfold fStep at h1
    split
    ·rename_i hwd
     simp only [hwd, if_true] at h1
     obtain ⟨hg, hK⟩ := h1
     have hg' := hg w hw (Known.all_for ha)
     have go : ∀ x w', E w w' → (Fs i).R x w' → wpAny P md ops Q' fuel (listed.setIfInBounds i true) (a.put o.dst ((Fs i).val x)) w' := fun x w' he hR =>
      Jj ht hQ fuel _ _ _ w' (ht _ _ _ hw he) (fun k hk => by
       rcases List.mem_cons.1 hk with rfl | hk
       ·exact hR
       ·exact hst k hk _ _ (ha k hk) he) (fun k hk => by
       rcases List.mem_cons.1 hk with rfl | hk
       ·exact (Fs i).stays x
       ·exact hst k hk) (hK x)
     left
     unfold gives at hg'
     unfold Oper.wp
     generalize (execOp a.eval o).run P w = r at *
     cases r with
     | ok n w' =>
       cases n <;> simp only [Zbi] at hg' <;> simp only [Oper.upon]
       case value u => obtain ⟨he, x, rfl, hR⟩ := hg'; exact go x w' he hR
       case skip => obtain ⟨he, x, hx, hR⟩ := hg'; rw [hx]; exact go x w' he hR
       case enter f args => exact hg'.mono fun e w'' ⟨he, x, hx, hR⟩ => by subst hx; exact go x w'' he hR
     | halt x w' => simp only [Zbi] at hg'
    ·rename_i hwd
     simp only [hwd] at h1
     exact Jj ht hQ fuel _ ks _ w hw ha hst h1
theorem Zf {id : Nat} {Q : Exit → Act → World → Prop} {a : Act} {w : World} {l : List Oper} (fs : List (Fact E)) (hm : P.follows .mixedOrders = true) (hB : Region.lexB .any l.toArray = true)
 (ht : ∀ a b c, E a b → E b c → E a c) (hd : E w { w with drawn := w.drawn + 1 }) (h : wpF P l.toArray E w (fun a' w' => Q .normal a' w') l fs [] a) : (Code.region id l.toArray true).wp P Q a w := by
 simp only [Region.lexB, Bool.and_eq_true] at hB
 refine wp_region_any hm ?_
 have hlex := Zez (P := P) (md := .any) (ops := l.toArray) (E := E) (W := w) (Fs := fun i => (fs[i]?).getD ⟨Unit, (), fun _ => undef, fun _ _ => True, fun _ _ _ _ _ => trivial⟩) (Q := fun a' w' => Q .normal a' w') hB.1 l 0 fs (Array.replicate l.toArray.size false) [] a
  (by simp) (fun j F hj => by simp only [Nat.zero_add, hj, Option.getD_some]) (by simpa using hB.2) h
 have := Jj (ks := []) (Q := fun a' w' => Q .normal a' w') (Q' := Q) ht (fun _ _ h => h) _ _ _ { w with drawn := w.drawn + 1 } hd (fun k hk => by cases hk) (fun k hk => by cases hk) hlex
 simpa using this
end
section
variable {P : Program} {ops : Array Oper} {rest : List Oper} {o : Oper} {a : Act} {w : World} {Q : Exit → Act → World → Prop}
theorem Zaq {base : Nat} {t ty e : TypeId} {i : TypeInfo} {z : Value} {bytes : Nat} (ht : P.underlying t = some (.slice e)) (hi : P.info? e = some i) (hz : i.zero = some z)
 (hsize : i.size = 1) (hby : i.bytes = bytes) (hzs : z.cells.size = 1) {v : Value} {n : Nat} {xs : List Value} (hown : w.ownsRow base e 1 v n xs)
 {B : Nat} {A : Option Addr} {m c : Nat} {news : List Value} (hr : Row w B A m news) (hbare : A = none → c = 0) (h1 : ∀ u ∈ news, u.oneCell' = true)
 (h63 : n + m ≤ maxLen) (hbytes : (n + m) * bytes ≤ 140737488355328) (hbase : base ≤ w.heap.size) :
 ∃ v' w', (Builtin.append_ #[t, t] ty #[v, .slice A m c]).run P w = .ok v' w' ∧ w'.ownsRow base e 1 v' (n + m) (xs ++ news) ∧ w.grownBy w' v.ownBlock ∧ (v'.ownBlock = v.ownBlock ∨ v'.ownBlock = some w.heap.size) := by
 rcases A with _ | ad
 ·have hnil : news = [] := by
   rcases news with _ | ⟨u, us⟩
   ·rfl
   ·obtain ⟨ad, he, _⟩ := hr.spot 0 u rfl
    cases he
  subst hnil
  have hm : m = 0 := by have := hr.len; simpa using this.symm
  have hc := hbare rfl
  subst hm hc
  exact ⟨v, w, run_append_owned_none (P := P) (w := w) base t ty e i 1 ht hi v n xs hown, by simpa using hown, World.grownBy.refl w _, .inl rfl⟩
 ·obtain ⟨v', w', hrun, h2, h3, _, h5⟩ := run_append_own_at (P := P) (w := w) base t ty e i z 1 bytes ht hi hz hsize hby hzs (by omega) v n xs hown ad m c news (by rw [hr.len]; omega)
   (fun j u hu => by obtain ⟨ad', he, _, hc⟩ := hr.spot j u hu; injection he with he; subst he; exact hc) h1 h63 hbytes hbase
  exact ⟨v', w', hrun, h2, h3, h5⟩
theorem Zq {base : Nat} {e : TypeId} {v : Value} {n : Nat} {xs : List Value} (h : w.ownsRow base e 1 v n xs) : ∃ A c, v = .slice A n c ∧ (A = none → c = 0) := by
 rcases h.2 with ⟨rfl, rfl⟩ | ⟨g, cap, _, rfl, _⟩
 ·exact ⟨none, 0, rfl, fun _ => rfl⟩
 ·exact ⟨_, cap, rfl, fun h => by cases h⟩
theorem Z6 (hgd : o.guard = none) (s x : Operand) (t : TypeId) (ho : o.op = .call { callee := .builtin .append, args := #[s, x], argTypes := #[t, t] })
 {base : Nat} {e : TypeId} {i : TypeInfo} {z : Value} {bytes : Nat} (ht : P.underlying t = some (.slice e)) (hi : P.info? e = some i) (hz : i.zero = some z)
 (hsize : i.size = 1) (hby : i.bytes = bytes) (hzs : z.cells.size = 1) {v : Value} {n : Nat} {xs : List Value} (hs : a.eval s = v) (hown : w.ownsRow base e 1 v n xs)
 {B : Nat} {A : Option Addr} {m c : Nat} {news : List Value} (hx : a.eval x = .slice A m c) (hr : Row w B A m news) (hbare : A = none → c = 0) (h1 : ∀ u ∈ news, u.oneCell' = true)
 (k : Nat) (hk : n + m = k) (ys : List Value) (hys : xs ++ news = ys) (h63 : k ≤ maxLen) (hbytes : k * bytes ≤ 140737488355328) (hbase : base ≤ w.heap.size)
 (h : ∀ A' c' w', w'.ownsRow base e 1 (.slice A' k c') k ys → (A' = none → c' = 0) → w.grownBy w' v.ownBlock → ((Value.slice A' k c').ownBlock = v.ownBlock ∨ (Value.slice A' k c').ownBlock = some w.heap.size) → wpList P ops Q rest (a.put o.dst (.slice A' k c')) w') : wpList P ops Q (o :: rest) a w := by
 subst hk hys
 refine wpList_plain hgd fun K hK => ?_
 obtain ⟨v', w', hrun, h2, h3, h4⟩ := Zaq (P := P) (ty := o.type) ht hi hz hsize hby hzs hown hr hbare h1 h63 hbytes hbase
 obtain ⟨A', c', rfl, hb'⟩ := Zq h2
 unfold Oper.wp execOp
 simp only [ho, resolve, invoke, builtin, Sem.run_bind, Sem.run_pure, Result.andThen_ok, List.map_toArray, List.map_cons, List.map_nil, hs, hx, hrun]
 exact hK _ _ (h A' c' w' h2 hb' h3 h4)
end
theorem Yg (bs : List UInt8) : ∀ u ∈ bs.map byteV, u.oneCell' = true := by
 intro u hu
 obtain ⟨b, _, rfl⟩ := List.mem_map.1 hu
 rfl
structure Sl (w : World) (A : Option Addr) (n c : Nat) (bs : List UInt8) : Prop where
 bytes : Bytes w w.heap.size A n bs
 cap : n ≤ c
 bare : A = none → c = 0
section
variable {w w' : World} {A : Option Addr} {n c : Nat} {bs : List UInt8}
theorem Sl.len (h : Sl w A n c bs) : bs.length = n := Bytes.len h.bytes
theorem Sl.grow (hg : Grows w w') (h : Sl w A n c bs) : Sl w' A n c bs := ⟨hg.bytes h.bytes, h.cap, h.bare⟩
theorem Sl.nil (w : World) : Sl w none 0 0 [] := ⟨Bytes.nil _ _ _, Nat.le_refl _, fun _ => rfl⟩
theorem Sl.alloc (h : Sl w A n c bs) (o : Obj) : Sl (w.alloc o) A n c bs := h.grow ((Below.refl _ _).alloc (Nat.le_refl _) o)
theorem Sl.owned {base : Nat} {e : TypeId} (h : w.ownsRow base e 1 (.slice A n c) n (bs.map byteV)) : Sl w A n c bs := by
 refine ⟨Row.owned h, ?_, fun hA => ?_⟩
 ·rcases h.2 with ⟨h1, h2⟩ | ⟨g, cap, _, h1, _, _, h2, _⟩
  ·omega
  ·injection h1 with _ _ h1; omega
 ·rcases h.2 with ⟨h1, h2⟩ | ⟨g, cap, _, h1, _⟩
  ·injection h1
  ·injection h1 with h1 _ _; rw [hA] at h1; cases h1
theorem Sl.first (h : Sl w A n c bs) {k : Nat} (hk : k ≤ n) : Sl w A k c (bs.take k) := ⟨h.bytes.first hk, Nat.le_trans hk h.cap, h.bare⟩
end
theorem Sl.part {w : World} {ad : Addr} {n c k m : Nat} {bs : List UInt8} (h : Sl w (some ad) n c bs) (hk : k ≤ m) (hm : m ≤ n) (hc : ¬ c = k) : Sl w (some (ad.add k)) (m - k) (c - k) ((bs.take m).drop k) := by
 have h1 := h.first hm
 refine ⟨?_, by have := h.cap; omega, fun h => by cases h⟩
 have h2 := Row.behind (k := k) (cap := c) h1.bytes hk h1.cap
 rw [if_neg hc] at h2
 unfold Bytes
 rw [List.map_drop]
 exact h2
theorem Zd {w w' : World} {base : Nat} {e : TypeId} {size : Nat} {v : Value} {n : Nat} {xs : List Value} (h : w.ownsRow base e size v n xs) (hg : Grows w w') : w'.ownsRow base e size v n xs := by
 obtain ⟨h1, h2⟩ := h
 refine ⟨h1, ?_⟩
 rcases h2 with h2 | ⟨g, cap, cur, hv, hb, hh, r⟩
 ·exact .inl h2
 ·exact .inr ⟨g, cap, cur, hv, hb, by rw [hg.block g (Array.getElem?_eq_some_iff.1 hh).1]; exact hh, r⟩
theorem Zj {w : World} {base base' : Nat} {e : TypeId} {size : Nat} {v : Value} {n : Nat} {xs : List Value} (h : w.ownsRow base e size v n xs) (hb : base' ≤ base) : w.ownsRow base' e size v n xs := by
 obtain ⟨h1, h2⟩ := h
 refine ⟨h1, ?_⟩
 rcases h2 with h2 | ⟨g, cap, cur, hv, hg, r⟩
 ·exact .inl h2
 ·exact .inr ⟨g, cap, cur, hv, Nat.le_trans hb hg, r⟩
theorem infoU8 : (Tryz.prog.info? 5).map (fun i => (i.zero, i.size, i.bytes)) = some (some (.int .u8 0), 1, 1) := by kernel_rfl
section
variable {P : Program} {ops : Array Oper} {rest : List Oper} {o : Oper} {a : Act} {w : World} {Q : Exit → Act → World → Prop}
end
section
variable {ops : Array Oper} {rest : List Oper} {o : Oper} {a : Act} {w : World} {Q : Exit → Act → World → Prop}
theorem Zb1 (hgd : o.guard = none) (s x : Operand) (ho : o.op = .call { callee := .builtin .append, args := #[s, x], argTypes := #[31, 31] })
 {base : Nat} {A0 : Option Addr} {n c0 : Nat} {xs : List UInt8} (hs : a.eval s = .slice A0 n c0) (hown : w.ownsRow base 5 1 (.slice A0 n c0) n (xs.map byteV))
 {A : Option Addr} {m c : Nat} {ys : List UInt8} (hx : a.eval x = .slice A m c) (hr : Sl w A m c ys) (k : Nat) (hk : n + m = k) (zs : List UInt8) (hzs : xs ++ ys = zs) (hk2 : k ≤ 140737488351232) (hbase : base ≤ w.heap.size)
 (h : ∀ A' c' w', w'.ownsRow base 5 1 (.slice A' k c') k (zs.map byteV) → Below base w w' → wpList Tryz.prog ops Q rest (a.put o.dst (.slice A' k c')) w') : wpList Tryz.prog ops Q (o :: rest) a w := by
 obtain ⟨i0, hi, hz0, hz1, hz2⟩ := info_parts infoU8
 subst hzs
 refine Z6 hgd s x _ ho Tryz.underlying31 hi hz0 hz1 hz2 rfl hs hown hx hr.bytes hr.bare (Yg ys) k hk ((xs ++ ys).map byteV) (List.map_append).symm (by unfold maxLen; omega) (by omega) hbase (fun A' c' w' h1 _ h3 _ => ?_)
 exact h A' c' w' h1 ((Below.refl _ w).grown h3 hbase (fun g hg => (hown.lt g hg).1))
end
theorem Y0 (w : World) : (w.alloc (.cells #[] 5)).ownsRow w.heap.size 5 1 (.slice (some ⟨w.heap.size, 0, none⟩) 0 0) 0 (([] : List UInt8).map byteV) := World.ownsRow_lit w #[] 0 (Nat.le_refl _) (Nat.zero_le _) rfl
theorem Zb (w : World) (o : Obj) : Grows w (w.alloc o) := (Below.refl _ _).alloc (Nat.le_refl _) o
theorem Z1 (w : World) (o : Obj) : w.heap.size ≤ (w.alloc o).heap.size := by simp
section
variable {α : Type}
theorem Zak {enc : α → List Value} {k : Nat} (hk : ∀ a, (enc a).length = k) : ∀ (l : List α) (i j : Nat) (a : α), l[i]? = some a → j < k → (l.flatMap enc)[i * k + j]? = (enc a)[j]?
 | a :: l, 0, j, _, h, hj => by
   simp only [List.getElem?_cons_zero, Option.some.injEq] at h
   subst h
   rw [List.flatMap_cons, Nat.zero_mul, Nat.zero_add, List.getElem?_append_left (by rw [hk]; exact hj)]
 | a :: l, i + 1, j, b, h, hj => by
   rw [List.flatMap_cons, List.getElem?_append_right (by rw [hk, Nat.add_mul]; omega), hk, show (i + 1) * k + j - k = i * k + j by rw [Nat.add_mul]; omega]
   exact Zak hk l i j b (by simpa using h) hj
 | [], i, j, _, h, _ => by simp at h
structure Rw (w : World) (A : Option Addr) (n : Nat) (enc : α → List Value) (k : Nat) (l : List α) : Prop where
 len : l.length = n
 spot : ∀ (i : Nat) (a : α), l[i]? = some a → ∃ g, A = some ⟨g, 0, none⟩ ∧ g < w.heap.size ∧ ∀ j, j < k → w.cell? ⟨g, i * k + j, none⟩ = (enc a)[j]?
theorem Rw.owned {w : World} {e : TypeId} {A : Option Addr} {n c k : Nat} {enc : α → List Value} {l : List α} (hk : ∀ a, (enc a).length = k) (hl : l.length = n) (h : w.ownsRow 0 e k (.slice A n c) n (l.flatMap enc)) : Rw w A n enc k l := by
 refine ⟨hl, fun i a hi => ?_⟩
 have hil : i < l.length := (List.getElem?_eq_some_iff.1 hi).1
 obtain ⟨g, cap, hv, _, hlt⟩ := h.form (by omega)
 injection hv with hA _ _
 subst hA
 refine ⟨g, rfl, hlt, fun j hj => ?_⟩
 have h1 := Zak hk l i j a hi hj
 have h2 : j < (enc a).length := by rw [hk]; exact hj
 rw [List.getElem?_eq_getElem h2] at h1 ⊢
 have h3 := h.cells (g := g) rfl _ _ h1
 rw [show (⟨g, 0, none⟩ : Addr).add (i * k + j) = ⟨g, i * k + j, none⟩ by unfold Addr.add; split <;> simp_all] at h3
 exact h3
theorem Rw.grow {w w' : World} {A : Option Addr} {n k : Nat} {enc : α → List Value} {l : List α} (h : Rw w A n enc k l) (hg : Grows w w') : Rw w' A n enc k l :=
 ⟨h.len, fun i a hi => by
  obtain ⟨g, h1, h2, h3⟩ := h.spot i a hi
  exact ⟨g, h1, Nat.lt_of_lt_of_le h2 hg.size, fun j hj => by rw [hg.cell (show (⟨g, i * k + j, none⟩ : Addr).block < w.heap.size from h2)]; exact h3 j hj⟩⟩
end
theorem own : ownKnob Tryz.prog.godebug = none := by kernel_rfl
theorem laidOut : laidOutB Tryz.prog = true := by kernel_rfl
end Go.Proofs.YtlldcogkcjnejaaGreat
