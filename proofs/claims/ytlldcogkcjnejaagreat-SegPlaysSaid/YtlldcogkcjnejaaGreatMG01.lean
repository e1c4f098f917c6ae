import Derived.Test.YtlldcogkcjnejaaGreatMG00
import Derived.Maps.OwnSet
import Derived.Sort.KeysCollected
import Derived.IntWalk
import Derived.RowKit
import Derived.RangeFuncNested
import Derived.RangeFuncLeaves
import Derived.Laws.IdiomStrings
import Derived.Lib.BufferRead
import Derived.Lib.Hide
set_option linter.unusedSimpArgs false
namespace Go.Proofs.YtlldcogkcjnejaaGreat
open Go.RowKit
abbrev Nm := List UInt8
abbrev Dir := List (Nm × Nat)
def Dir.ins (x : Nm × Nat) : Dir → Dir
 | [] => [x]
 | y :: r => if bytesBefore x.1 y.1 then x :: y :: r else y :: Dir.ins x r
def Dir.del (n : Nm) (l : Dir) : Dir := l.filter fun p => !(p.1 == n)
def Dir.put (n : Nm) (f : Nat) (l : Dir) : Dir := Dir.ins (n, f) (Dir.del n l)
def Dir.find (n : Nm) (l : Dir) : Option Nat := (l.find? fun p => p.1 == n).map (·.2)
inductive Ch where
 | made (n : Nm) (f : Nat)
 | moved (n to : Nm)
 | taken (n : Nm)
def Ch.on : Ch → Dir → Dir
 | .made n f, l => Dir.put n f l
 | .moved n to, l => match Dir.find n l with
   | some f => Dir.put to f (Dir.del n l)
   | none => l
 | .taken n, l => Dir.del n l
def redo (cs : List Ch) (l : Dir) : Dir := cs.foldl (fun l c => c.on l) l
structure Fl where
 bytes : List UInt8
 kept : Nat
structure Dk where
 most : Int
 made : Nat
 used : Int
 names : Dir
 kept : Dir
 pend : List Ch
 done : Int
 fail : Int
 cut : Int
 down : Bool
 files : Nat → Fl
def Dk.new (most : Int) : Dk := ⟨min (max most 0) 67108864, 0, 0, [], [], [], 0, -1, -1, false, fun _ => ⟨[], 0⟩⟩
def sooner (x : Int) : Int := if 0 < x then x - 1 else x
def Dk.sooner (m : Dk) : Dk := { m with cut := Go.Proofs.YtlldcogkcjnejaaGreat.sooner m.cut, fail := Go.Proofs.YtlldcogkcjnejaaGreat.sooner m.fail }
def Dk.thing (m : Dk) (does : Dk → Dk) : Dk × Int :=
 if m.down then (m, 82)
 else if m.cut = 0 then ({ m.sooner with cut := -1, down := true }, 82)
 else if m.fail = 0 then ({ m.sooner with fail := -1 }, 81)
 else ({ does m.sooner with done := wrap64 ((does m.sooner).done + 1) }, 0)
def right (n : Nm) : Bool := decide (1 ≤ n.length) && decide (n.length ≤ 16)
def Dk.change (m : Dk) (c : Ch) : Dk := { m with names := c.on m.names, pend := m.pend ++ [c] }
def Dk.setFile (m : Dk) (i : Nat) (f : Fl) : Dk := { m with files := fun j => if j = i then f else m.files j }
def Dk.doCreate (n : Nm) (m : Dk) : Dk :=
 let m1 : Dk := { m with files := fun j => if j = m.made then ⟨[], 0⟩ else m.files j, made := m.made + 1 }
 m1.change (.made n m.made)
def Dk.doAppend (f : Nat) (b : List UInt8) (m : Dk) : Dk :=
 { m.setFile f ⟨(m.files f).bytes ++ b, (m.files f).kept⟩ with used := wrap64 (m.used + b.length) }
def Dk.doSync (f : Nat) (m : Dk) : Dk := m.setFile f ⟨(m.files f).bytes, (m.files f).bytes.length⟩
def Dk.size (m : Dk) (n : Nm) : Int × Bool := match Dir.find n m.names with
 | some f => ((m.files f).bytes.length, true)
 | none => (0, false)
def Dk.doRemove (f : Nat) (n : Nm) (m : Dk) : Dk := Dk.change { m with used := wrap64 (m.used - (m.files f).bytes.length) } (.taken n)
def Dk.keep (m : Dk) (k : Nat) : Dk := { m with kept := redo (m.pend.take k) m.kept, pend := [] }
def Dk.create (m : Dk) (n : Nm) : Dk × Int :=
 if m.down then (m, 82)
 else if right n = false then (m, 1)
 else if (Dir.find n m.names).isSome then (m, 4)
 else if 4096 ≤ m.names.length then (m, 2)
 else m.thing (Dk.doCreate n)
def Dk.append (m : Dk) (n : Nm) (b : List UInt8) : Dk × Int :=
 if m.down then (m, 82)
 else match Dir.find n m.names with
  | none => (m, 3)
  | some f => if m.most < wrap64 (m.used + b.length) then (m, 5) else m.thing (Dk.doAppend f b)
def Dk.sync (m : Dk) (n : Nm) : Dk × Int :=
 if m.down then (m, 82)
 else match Dir.find n m.names with
  | none => (m, 3)
  | some f => m.thing (Dk.doSync f)
def Dk.remove (m : Dk) (n : Nm) : Dk × Int :=
 if m.down then (m, 82)
 else match Dir.find n m.names with
  | none => (m, 3)
  | some f => m.thing (Dk.doRemove f n)
def Dk.syncDir (m : Dk) : Dk × Int := m.thing fun m => m.keep m.pend.length
def Dk.setFail (m : Dk) (x : Int) : Dk := { m with fail := if 0 ≤ x then x else m.fail }
def Dk.setCut (m : Dk) (x : Int) : Dk := { m with cut := if 0 ≤ x then x else m.cut }
def more (l : List Int) (k : Nat) : Int := if l.length = 0 then 0 else l.getD (k % l.length) 0
def Fl.lose (f : Fl) (x : Int) : Fl :=
 let n := f.kept + (min (max x 0) ((f.bytes.length : Int) - f.kept)).toNat
 ⟨f.bytes.take n, n⟩
def Dk.boot (m : Dk) (dirs : Int) (l : List Int) : Dk :=
 let m1 := m.keep (min (max dirs 0) m.pend.length).toNat
 let fs : Nat → Fl := fun i => if m1.kept.any (fun p => p.2 == i) then (m.files i).lose (more l i) else m.files i
 { m1 with names := m1.kept, files := fs, used := wrap64 ((m1.kept.map fun p => ((fs p.2).bytes.length : Int)).sum), fail := -1, cut := -1, down := false }
def Dk.read (m : Dk) (n : Nm) (x k : Int) : Option (List UInt8) × Int :=
 if m.down then (none, 82)
 else match Dir.find n m.names with
  | none => (none, 3)
  | some f => if x < 0 ∨ k < 0 ∨ ((m.files f).bytes.length : Int) < x ∨ ((m.files f).bytes.length : Int) - x < k then (none, 1)
    else (some (((m.files f).bytes.drop x.toNat).take k.toNat), 0)
/-! Names as a map's datum. -/
section
variable {H : Type}
def encD (l : Dir) : DataW H := .map (l.map fun p => (.string p.1, .lit (.int .i64 (p.2 : Int))))
theorem Zdr (a b : Nm) : (Lit.string a).sameKey (.string b) = (a == b) := rfl
theorem Ze8 (n : Nm) (f : Nat) : ∀ l : Dir, DataW.insert (H := H) (.string n, .lit (.int .i64 (f : Int))) (l.map fun p => (.string p.1, .lit (.int .i64 (p.2 : Int)))) = (Dir.ins (n, f) l).map fun p => (.string p.1, .lit (.int .i64 (p.2 : Int)))
 | [] => rfl
 | y :: r => by
   show (if bytesBefore n y.1 then _ else _) = _
   unfold Dir.ins
   by_cases h : bytesBefore n y.1 = true
   ·rw [if_pos h, if_pos h]; rfl
   ·rw [if_neg h, if_neg h, List.map_cons, ← Ze8 n f r]
theorem Zrc (n : Nm) (l : Dir) : (encD (H := H) l).del (.string n) = encD (Dir.del n l) := by
 unfold encD DataW.del Dir.del
 simp only [List.filter_map]
 rfl
theorem Zrd (n : Nm) (f : Nat) (l : Dir) : (encD (H := H) l).put (.string n) (.lit (.int .i64 (f : Int))) = encD (Dir.put n f l) := by
 unfold encD DataW.put Dir.put Dir.del
 simp only [List.filter_map]
 show DataW.map (DataW.insert _ (List.map _ _)) = _
 rw [Ze8]
 rfl
theorem Zmw (n : Nm) (l : Dir) (z : DataW H) : (encD l).atKey (.string n) z = match Dir.find n l with
 | some f => .lit (.int .i64 (f : Int))
 | none => z := by
 unfold encD DataW.atKey Dir.find
 simp only [List.find?_map]
 have : ((fun p : Lit × DataW H => p.1.sameKey (.string n)) ∘ fun p : Nm × Nat => ((Lit.string p.1, DataW.lit (.int .i64 (p.2 : Int))) : Lit × DataW H)) = fun p => p.1 == n := rfl
 rw [this]
 cases List.find? (fun p : Nm × Nat => p.1 == n) l <;> rfl
theorem Zmx (n : Nm) (l : Dir) : Maps.has (encD (H := H) l) (.string n) = (Dir.find n l).isSome := by
 unfold encD Dir.find
 rw [Maps.has_eq, List.any_map, Option.isSome_map]
 have : ((fun p : Lit × DataW H => p.1.sameKey (.string n)) ∘ fun p : Nm × Nat => ((Lit.string p.1, DataW.lit (.int .i64 (p.2 : Int))) : Lit × DataW H)) = fun p => p.1 == n := rfl
 rw [this]
 cases h : List.find? (fun p : Nm × Nat => p.1 == n) l with
 | none =>
   have := List.find?_eq_none.1 h
   simpa using this
 | some p =>
   have h1 := List.find?_some h
   have h2 := List.mem_of_find?_eq_some h
   exact List.any_eq_true.2 ⟨p, h2, h1⟩
theorem Zdd (l : Dir) : Maps.size (encD (H := H) l) = l.length := by simp [encD, Maps.size]
end
end Go.Proofs.YtlldcogkcjnejaaGreat
namespace Go.Proofs.YtlldcogkcjnejaaGreat
open Go.RowKit
structure Zc (own : Nat → Prop) (w w' : World) : Prop where
 os : w'.os = w.os
 tape : w'.tape = w.tape
 output : w'.output = w.output
 size : w.heap.size ≤ w'.heap.size
 same : ∀ k, k < w.heap.size → ¬ own k → w'.heap[k]? = w.heap[k]?
section
variable {own own' : Nat → Prop} {a b c w w' : World}
theorem Zc.refl (own : Nat → Prop) (w : World) : Zc own w w := ⟨rfl, rfl, rfl, Nat.le_refl _, fun _ _ _ => rfl⟩
theorem Zc.trans (h : Zc own a b) (k : Zc own b c) : Zc own a c :=
 ⟨k.os.trans h.os, k.tape.trans h.tape, k.output.trans h.output, Nat.le_trans h.size k.size, fun i hi ho => (k.same i (Nat.lt_of_lt_of_le hi h.size) ho).trans (h.same i hi ho)⟩
theorem Zc.wider (h : Zc own a b) (hw : ∀ k, k < a.heap.size → own k → own' k) : Zc own' a b :=
 ⟨h.os, h.tape, h.output, h.size, fun k hk ho => h.same k hk fun h => ho (hw k hk h)⟩
theorem Zc.grows (h : Grows a b) : Zc own a b := ⟨h.os, h.tape, h.output, h.size, fun k hk _ => h.block k hk⟩
theorem Zc.alloc (h : Zc own a w) (o : Obj) : Zc own a (w.alloc o) :=
 h.trans (Zc.grows ((Below.refl _ _).alloc (Nat.le_refl _) o))
theorem Zc.setCell (h : Zc own a w) {p : Addr} (hp : own p.block) (u : Value) : Zc own a (w.setCell p u) :=
 h.trans ⟨rfl, rfl, rfl, by simp [World.setCell], fun k _ ho => Below.heap_setCell _ _ _ k (fun e => ho (e ▸ hp))⟩
theorem Zc.grown {row : Option Nat} (h : Zc own a w) (hg : w.grownBy w' row) (hr : ∀ g, row = some g → own g) : Zc own a w' :=
 h.trans ⟨hg.os, hg.tape, hg.output, hg.size, fun k hk ho => hg.block k hk fun e => ho (hr k e.symm)⟩
theorem Zc.drew (h : Zc own a w) : Zc own a w.drew := ⟨h.os, h.tape, h.output, h.size, h.same⟩
theorem Zc.below {B : Nat} (h : Zc own a w) (hB : B ≤ a.heap.size) (ho : ∀ k, k < B → ¬ own k) : Below B a w := ⟨h.os, h.tape, h.output, h.size, fun k hk => h.same k (by omega) (ho k hk)⟩
end
def Zp (B : Nat) (w w' : World) : Prop := Zc (fun k => B ≤ k ∧ ∀ cs t fr, w.heap[k]? ≠ some (.cells cs t fr)) w w'
section
variable {B : Nat} {a b c w w' : World}
theorem Zp.held (h : Zp B w w') {k : Nat} {cs : Array Value} {t : TypeId} {fr : Nat × Nat} (hk : w.heap[k]? = some (.cells cs t fr)) : w'.heap[k]? = some (.cells cs t fr) :=
 (Zc.same h k (Array.getElem?_eq_some_iff.1 hk).1 fun h => h.2 _ _ _ hk).trans hk
theorem Zp.grows (h : Grows w w') : Zp B w w' := Zc.grows h
theorem Zp.trans (h : Zp B a b) (k : Zp B b c) : Zp B a c := by
 refine ⟨k.os.trans h.os, k.tape.trans h.tape, k.output.trans h.output, Nat.le_trans h.size k.size, fun i hi ho => ?_⟩
 rw [← Zc.same h i hi ho]
 refine Zc.same k i (Nat.lt_of_lt_of_le hi h.size) fun ⟨h1, h2⟩ => ho ⟨h1, fun cs t fr e => h2 cs t fr (h.held e)⟩
theorem Zp.putObj {l : Nat} {o : Obj} (h : w.heap[l]? = some o) (ho : o.isCells = false) (hl : B ≤ l) (o' : Obj) : Zp B w (w.putObj l o') :=
 ⟨rfl, rfl, rfl, by simp, fun k _ hn => World.putObj_heap_other fun e => hn (by
  subst e
  exact ⟨hl, fun cs t fr h' => by rw [h] at h'; injection h' with h'; subst h'; cases ho⟩)⟩
theorem Zp.boxed (h : Zp B w w') {k : Nat} {t : TypeId} {v : Value} (hk : Boxed w k t v) : Boxed w' k t v := h.held hk
theorem Zp.under (h : Zp B w w') {n₀ : Nat} (h1 : n₀ ≤ B) (h2 : n₀ ≤ w.heap.size) : Below n₀ w w' := Zc.below h h2 fun k hk h => by omega
theorem Zp.owned (h : Zp B w w') {base : Nat} {e : TypeId} {size : Nat} {v : Value} {n : Nat} {xs : List Value} (hv : w.ownsRow base e size v n xs) : w'.ownsRow base e size v n xs := by
 obtain ⟨h1, h2⟩ := hv
 refine ⟨h1, ?_⟩
 rcases h2 with h2 | ⟨g, cap, cur, hv, hb, hh, r⟩
 ·exact .inl h2
 ·exact .inr ⟨g, cap, cur, hv, hb, h.held hh, r⟩
end
def Mine (n₀ m n₁ : Nat) (w : World) (k : Nat) : Prop := (n₀ ≤ k ∧ k < m) ∨ (n₁ ≤ k ∧ ∃ cs t fr, w.heap[k]? = some (.cells cs t fr))
def Gives {α : Type} (P : Program) (n : Nat) (g : Nat) (lb : Array Value) (encs : α → Array Value) (Gd : List α → α → World → World → Prop) (Safe : Nat → Prop) (S Sp : List α → Prop) (w : World) : Prop :=
 ∀ (l : Nat) (J Jx : List α → World → Prop) (W : World), Grows w W → (∀ s A B, J s A → Grows A B → J s B) → (∀ s A B, Jx s A → Grows A B → Jx s B) →
  (∀ pre x W0 W1, J pre W0 → Grows W0 W1 → Gd pre x W0 W1 → YieldAt Fence.wide n P l (encs x) W1 fun e W' =>
    (e = .returned (.bool true) ∧ J (pre ++ [x]) W' ∧ W1.heap.size ≤ W'.heap.size ∧ ∀ k, k < W1.heap.size → Safe k ∨ W0.heap.size ≤ k → W'.heap[k]? = W1.heap[k]?) ∨ (e = .returned (.bool false) ∧ Jx (pre ++ [x]) W')) →
  J [] W →
  CallsIn Fence.wide n P g (#[.func (.yield l) #[] #[]] ++ lb) W fun e W' => (∃ v, e = .returned v) ∧ ((∃ xs, S xs ∧ J xs W') ∨ (∃ pre, Sp pre ∧ Jx pre W'))
def Zhe {α : Type} (own : Nat → Prop) (I Ix : List α → World → Prop) (xs : List α) (W : World) : Exit → Act → World → Prop
 | .normal, _, W' => Zc own W W' ∧ I xs W'
 | .ret, _, W' => Zc own W W' ∧ Ix xs W'
 | _, _, _ => False
theorem Zds {α : Type} {P : Program} {n : Nat} {g : Operand} {ps : Array Tmp} {assign body : Code} {Q : Exit → Act → World → Prop} {a : Act} {w : World}
 {gf : Nat} {lb : Array Value} (hg : a.eval g = .func (.func gf) #[] lb) (eg : ∀ args w, (callFunc gf args).run P w = .ok (.enter gf args) w)
 {encs : α → Array Value} {Gd : List α → α → World → World → Prop} {Safe : Nat → Prop} {S Sp : List α → Prop} (hseq : Gives P (n - 1) gf lb encs Gd Safe S Sp w) (hps : ∀ x, (encs x).size = ps.size)
 (n₀ m : Nat) (hnm : n₀ ≤ m) (hm : m ≤ w.heap.size) (hsafe : ∀ k, Safe k → k < n₀ ∨ (m ≤ k ∧ k < w.heap.size))
 (I Ix : List α → World → Prop) (hI : ∀ s A B, I s A → Zp w.heap.size A B → I s B) (hIx : ∀ s A B, Ix s A → Zp w.heap.size A B → Ix s B) (h0 : I [] w)
 (hround : ∀ (l : Nat) (pre : List α) (x : α) (W0 W : World), w.heap.size ≤ W0.heap.size → I pre W0 → Grows W0 W → Gd pre x W0 W →
   assign.wpIn (Fence.wide.inRound l) (n - 1) P (Exit.then (fun a₁ Wa => Grows W Wa ∧ ∀ Wb, Zp w.heap.size Wa Wb →
    body.wpIn (Fence.wide.inRound l) (n - 1) P (Zhe (Mine n₀ m w.heap.size W0) I Ix (pre ++ [x]) Wb) a₁ Wb) (fun _ _ _ => False)) { tmps := (ps.zip (encs x)).foldl (fun t (p, v) => t.setIfInBounds p v) a.tmps, defers := [] } W)
 (hdone : ∀ (D : Nat) (xs : List α) (W : World), w.heap.size ≤ D → S xs → I xs W → W.heap[D]? = some (.deferred (some [])) → Q .normal { a with defers := { target := .collected D, args := #[] } :: a.defers } W)
 (hstop : ∀ (D : Nat) (pre : List α) (W : World), w.heap.size ≤ D → Sp pre → Ix pre W → W.heap[D]? = some (.deferred (some [])) → Code.ret.wpIn Fence.wide n P Q { a with defers := { target := .collected D, args := #[] } :: a.defers } W) :
 (Code.rangeFunc g ps assign body).wpIn Fence.wide n P Q a w := by
 refine wpIn_rangeFunc fun fn _ => ?_
 rw [show Fence.wide.round = none from rfl]
 obtain ⟨rec, hrec⟩ : ∃ rec : LoopState → Option Code → Loop, rec = fun st pe => { state := st, pending := pe, fn, tmps := a.tmps, params := ps, assign, body, defers := w.heap.size } := ⟨_, rfl⟩
 have hrun := run_enterLoop_outer (P := P) (w := w) fn a.tmps ps assign body
 rw [show ({ state := .ready, pending := none, fn, tmps := a.tmps, params := ps, assign, body, defers := w.heap.size } : Loop) = rec .ready none by rw [hrec]] at hrun
 have hD0 : ((w.alloc (.deferred (some []))).alloc (.loop (rec .ready none))).heap[w.heap.size]? = some (.deferred (some [])) := (Below.heap_alloc _ _ _ (by simp)).trans (World.alloc_heap_new w _)
 have hL0 : ((w.alloc (.deferred (some []))).alloc (.loop (rec .ready none))).heap[w.heap.size + 1]? = some (.loop (rec .ready none)) := by
  have := World.alloc_heap_new (w.alloc (.deferred (some []))) (.loop (rec .ready none)); rwa [World.size_alloc] at this
 have hG0 : Grows w ((w.alloc (.deferred (some []))).alloc (.loop (rec .ready none))) := ((Below.refl _ w).alloc (Nat.le_refl _) _).alloc (by simp) _
 generalize (w.alloc (.deferred (some []))).alloc (.loop (rec .ready none)) = V at *
 refine ⟨w.heap.size + 1, _, V, { target := .fn (.func gf) lb, args := #[.func (.yield (w.heap.size + 1)) #[] #[]] }, V, gf, #[.func (.yield (w.heap.size + 1)) #[] #[]] ++ lb, V, hrun, ?_, fun _ _ => trivial, ?_, (fun h => by cases h), ?_⟩
 ·simp only [resolve, hg]
  simp [go_sem]
 ·simp [invoke, go_sem, eg]
 have stay : ∀ {A B : World} {k : Nat} {o : Obj}, A.heap[k]? = some o → Grows A B → B.heap[k]? = some o := fun hk hb => (hb.block _ (Array.getElem?_eq_some_iff.1 hk).1).trans hk
 -- what an iterator is told of: the caller's own, the loop's record, the block for deferred calls
 refine (hseq (w.heap.size + 1) (fun s W => I s W ∧ W.heap[w.heap.size + 1]? = some (.loop (rec .ready none)) ∧ W.heap[w.heap.size]? = some (.deferred (some [])))
  (fun s W => Ix s W ∧ W.heap[w.heap.size + 1]? = some (.loop (rec .done (some .ret))) ∧ W.heap[w.heap.size]? = some (.deferred (some []))) V hG0
  (fun s A B h hb => ⟨hI s A B h.1 (.grows hb), stay h.2.1 hb, stay h.2.2 hb⟩) (fun s A B h hb => ⟨hIx s A B h.1 (.grows hb), stay h.2.1 hb, stay h.2.2 hb⟩) ?_ ⟨hI [] w V h0 (.grows hG0), hL0, hD0⟩).mono ?_
 ·rintro pre x W0 W ⟨hi, hl, hd⟩ hb hgd
  have hl1 := stay hl hb
  have hd1 := stay hd hb
  have hsz : w.heap.size + 1 < W0.heap.size := (Array.getElem?_eq_some_iff.1 hl).1
  have hy := run_yield (P := P) (args := encs x) hl1 (by rw [hrec]; exact hps x)
  rw [hrec] at hy
  refine ⟨fn, _, assign, body, hy, roundIn_of_wpIn trivial (wpIn_mono (hround _ pre x W0 W (by omega) hi hb hgd) ?_)⟩
  intro e a₁ Wa he
  cases e <;> first | exact he.elim | skip
  obtain ⟨hga, hbody⟩ := he
  have hl2 := stay hl1 hga
  have hd2 := stay hd1 hga
  refine ⟨_, run_beginRound hl2 (by rw [hrec]), ?_⟩
  have hsz2 : w.heap.size + 1 < Wa.heap.size := (Array.getElem?_eq_some_iff.1 hl2).1
  have hl3 : (Wa.putObj (w.heap.size + 1) (.loop { rec .ready none with state := .busy })).heap[w.heap.size + 1]? = some (.loop { rec .ready none with state := .busy }) := World.putObj_heap_same hsz2
  have hd3 : (Wa.putObj (w.heap.size + 1) (.loop { rec .ready none with state := .busy })).heap[w.heap.size]? = some (.deferred (some [])) := (World.putObj_heap_other (by omega)).trans hd2
  have hcw : Zp w.heap.size Wa (Wa.putObj (w.heap.size + 1) (.loop { rec .ready none with state := .busy })) := .putObj hl2 rfl (by omega) _
  have hother : ∀ k, k ≠ w.heap.size + 1 → (Wa.putObj (w.heap.size + 1) (.loop { rec .ready none with state := .busy })).heap[k]? = Wa.heap[k]? := fun k hk => World.putObj_heap_other hk
  have hbd := hbody _ hcw
  have hszb : (Wa.putObj (w.heap.size + 1) (.loop { rec .ready none with state := .busy })).heap.size = Wa.heap.size := by simp
  generalize Wa.putObj (w.heap.size + 1) (.loop { rec .ready none with state := .busy }) = Wb at *
  refine wpIn_mono hbd ?_
  -- what is no one's own stays
  have keepL : ∀ {W' : World}, Zc (Mine n₀ m w.heap.size W0) Wb W' → W'.heap[w.heap.size + 1]? = some (.loop { rec .ready none with state := .busy }) ∧ W'.heap[w.heap.size]? = some (.deferred (some [])) := fun hs =>
   ⟨(hs.same _ (Array.getElem?_eq_some_iff.1 hl3).1 (fun h => by
     rcases h with h | ⟨_, cs, t, fr, h⟩
     ·omega
     ·rw [hl] at h; cases h)).trans hl3,
    (hs.same _ (Array.getElem?_eq_some_iff.1 hd3).1 (fun h => by
     rcases h with h | ⟨_, cs, t, fr, h⟩
     ·omega
     ·rw [hd] at h; cases h)).trans hd3⟩
  have fin : ∀ (jump : Option Code) (W' : World), Zc (Mine n₀ m w.heap.size W0) Wb W' →
   (Instr.endRound (w.heap.size + 1) jump).run P W' = .ok (.bool jump.isNone) (W'.putObj (w.heap.size + 1) (.loop (rec (if jump.isNone then .ready else .done) jump))) ∧
   Zp w.heap.size W' (W'.putObj (w.heap.size + 1) (.loop (rec (if jump.isNone then .ready else .done) jump))) ∧
   (W'.putObj (w.heap.size + 1) (.loop (rec (if jump.isNone then .ready else .done) jump))).heap[w.heap.size + 1]? = some (.loop (rec (if jump.isNone then .ready else .done) jump)) ∧
   (W'.putObj (w.heap.size + 1) (.loop (rec (if jump.isNone then .ready else .done) jump))).heap[w.heap.size]? = some (.deferred (some [])) := fun jump W' hs => by
   obtain ⟨k1, k2⟩ := keepL hs
   have hr := run_endRound (P := P) jump k1
   rw [hrec] at hr k1 ⊢
   exact ⟨hr, .putObj k1 rfl (by omega) _, World.putObj_heap_same (Array.getElem?_eq_some_iff.1 k1).1, (World.putObj_heap_other (by omega)).trans k2⟩
  intro e a₂ W' hp
  cases e <;> first | exact hp.elim | skip
  · -- off its end
   obtain ⟨hs, hi'⟩ := hp
   obtain ⟨hr, hc, k1, k2⟩ := fin none W' hs
   refine ⟨_, _, hr, .inl ⟨rfl, ⟨hI _ _ _ hi' hc, k1, k2⟩, ?_, ?_⟩⟩
   ·rw [World.putObj_size]
    exact Nat.le_trans hga.size (Nat.le_trans (by omega) hs.size)
   ·intro k hk hcase
    have hk1 : k ≠ w.heap.size + 1 := by
     rcases hcase with h | h
     ·have := hsafe k h; omega
     ·omega
    have hkb : k < Wb.heap.size := by have := hga.size; omega
    rw [World.putObj_heap_other hk1, hs.same k hkb, hother k hk1, hga.block k hk]
    rintro (h | ⟨h, cs, t, fr, hh⟩)
    ·rcases hcase with hc | hc
     ·have := hsafe k hc; omega
     ·omega
    ·rcases hcase with hc | hc
     ·have := hsafe k hc; omega
     ·have := (Array.getElem?_eq_some_iff.1 hh).1; omega
  · -- by a return
   obtain ⟨hs, hi'⟩ := hp
   obtain ⟨hr, hc, k1, k2⟩ := fin (some .ret) W' hs
   exact ⟨_, _, hr, .inr ⟨rfl, hIx _ _ _ hi' hc, k1, k2⟩⟩
 ·rintro e W2 ⟨⟨v, rfl⟩, (⟨xs, hS, hi, hl, hd⟩ | ⟨pre, hSp, hi, hl, hd⟩)⟩
  ·have hr : (Instr.endLoop (w.heap.size + 1)).run P W2 = .ok none (W2.putObj (w.heap.size + 1) (.loop { rec .ready none with state := .exhausted })) := by
    have hr := run_endLoop (P := P) hl (by rw [hrec]; simp)
    rw [hrec] at hr ⊢
    exact hr
   refine ⟨none, _, hr, hdone _ xs _ (Nat.le_refl _) hS (hI _ _ _ hi (.putObj hl rfl (by omega) _)) ((World.putObj_heap_other (by omega)).trans hd)⟩
  ·have hr : (Instr.endLoop (w.heap.size + 1)).run P W2 = .ok (some .ret) (W2.putObj (w.heap.size + 1) (.loop { rec .done (some .ret) with state := .exhausted })) := by
    have hr := run_endLoop (P := P) hl (by rw [hrec]; simp)
    rw [hrec] at hr ⊢
    exact hr
   refine ⟨some .ret, _, hr, hstop _ pre _ (Nat.le_refl _) hSp (hIx _ _ _ hi (.putObj hl rfl (by omega) _)) ((World.putObj_heap_other (by omega)).trans hd)⟩
end Go.Proofs.YtlldcogkcjnejaaGreat
namespace Go.Proofs.YtlldcogkcjnejaaGreat
open Go.RowKit
def Held (w : World) (g : Nat) (cs : Array Value) : Prop := ∃ t fr, w.heap[g]? = some (.cells cs t fr)
theorem Held.lt {w : World} {g : Nat} {cs : Array Value} (h : Held w g cs) : g < w.heap.size := by
 obtain ⟨t, fr, h⟩ := h
 exact (Array.getElem?_eq_some_iff.1 h).1
theorem Whole.same {w w' : World} {g t : Nat} {cs : Array Value} (h : Whole w g t cs) (e : w'.heap[g]? = w.heap[g]?) : Whole w' g t cs := by
 unfold Whole
 rw [e]
 exact h
theorem Held.bytes {w : World} {g n : Nat} {cs : Array Value} (h : Held w g cs) (bs : List UInt8) (he : cs = (bs.map byteV).toArray) (hn : bs.length = n) : Bytes w w.heap.size (some ⟨g, 0, none⟩) n bs := by
 have hl := h.lt
 obtain ⟨t, fr, h⟩ := h
 refine ⟨by simp [hn], fun k v hv => ⟨⟨g, 0, none⟩, rfl, hl, ?_⟩⟩
 rw [show (⟨g, 0, none⟩ : Addr).add k = ⟨g, k, none⟩ by unfold Addr.add; split <;> simp_all, cell_of_row w g k cs t fr h, he]
 simpa using hv
theorem Held.sl {w : World} {g n : Nat} {cs : Array Value} (h : Held w g cs) (bs : List UInt8) (he : cs = (bs.map byteV).toArray) (hn : bs.length = n) : Sl w (some ⟨g, 0, none⟩) n n bs :=
 ⟨h.bytes bs he hn, Nat.le_refl _, fun h => by cases h⟩
theorem Whole.sl {w : World} {g n t : Nat} {cs : Array Value} (h : Whole w g t cs) (bs : List UInt8) (he : cs = (bs.map byteV).toArray) (hn : bs.length = n) : Sl w (some ⟨g, 0, none⟩) n n bs :=
 Held.sl ⟨t, _, h⟩ bs he hn
theorem Zu {w : World} {A : Option Addr} {n c : Nat} {bs : List UInt8} (h : Sl w A n c bs) : (convert 31 9 (.slice A n c)).run Tryz.prog w = .ok (.string ⟨bs.toArray⟩) w := by
 have hl := h.len
 subst hl
 cases A with
 | none =>
   have hc := h.bare rfl
   have hn := h.cap
   have hb : bs = [] := List.eq_nil_of_length_eq_zero (by omega)
   subst hb
   exact Lib.run_convert_nil_bytes w 31 9 _ c Tryz.underlying31 Tryz.underlying5 Tryz.underlying9
 | some ad =>
   refine run_convert_bytes_back w 31 9 _ ad c bs Tryz.underlying31 Tryz.underlying5 Tryz.underlying9 (fun j hj => ?_)
   obtain ⟨_, e, _, hc⟩ := h.bytes.spot hj
   injection e with e
   subst e
   rw [hc]
   simp [hj]
end Go.Proofs.YtlldcogkcjnejaaGreat
namespace Go.Proofs.YtlldcogkcjnejaaGreat
open Go.RowKit
def Za (v : Value) : Fact Grows := ⟨Unit, (), fun _ => v, fun _ _ => True, fun _ _ _ _ _ => trivial⟩
def Yv (bs : List UInt8) : Fact Grows := ⟨Option Addr × Nat, (none, 0), fun p => .slice p.1 bs.length p.2, fun p w => Sl w p.1 bs.length p.2 bs, fun _ _ _ h g => Sl.grow g h⟩
theorem Known.get {ks : Known} {ls : List Tmp} {w : World} (h : ks.for ls w) (i : Nat) {d : Tmp} {R : World → Prop} (hi : ks[i]? = some (some d, R)) (hd : ls.contains d = true) : R w :=
 h _ (List.mem_of_getElem? hi) ⟨d, rfl, by simpa using hd⟩
section
variable {P : Program} {ops : Array Oper} {W : World} {Q : Act → World → Prop} {o : Oper} {rest : List Oper} {fs : List (Fact Grows)} {ks : Known} {a : Act}
theorem Zcg {E : World → World → Prop} : ∀ (l : List Oper) (fs : List (Fact E)) (ks ks' : Known) (a : Act), (∀ k ∈ ks, k ∈ ks') → wpF P ops E W Q l fs ks a → wpF P ops E W Q l fs ks' a
 | [], _, _, _, _, hk, h => fun w hw ha => h w hw fun k hk' => ha k (hk k hk')
 | _ :: _, [], _, _, _, _, h => h.elim
 | o :: l, F :: fs, ks, ks', a, hk, h => by
   unfold wpF fStep at *
   split
   ·rename_i hw
    simp only [hw, if_true] at h
    refine ⟨fun w hw' hf => h.1 w hw' fun k hk' => hf k (hk k hk'), fun x => Zcg l fs _ _ _ (fun k hk' => ?_) (h.2 x)⟩
    rcases List.mem_cons.1 hk' with rfl | hk'
    ·exact List.mem_cons_self
    ·exact List.mem_cons_of_mem _ (hk k hk')
   ·rename_i hw
    simp only [hw] at h
    exact Zcg l fs ks ks' _ hk h
theorem f_val (v : Value) (hw : Region.wanted o (yielded ops a.tmps) = true) (h1 : ∀ w, Grows W w → (execOp a.eval o).run P w = .ok (.value v) w) (h2 : wpF P ops Grows W Q rest fs ks (a.put o.dst v)) :
 wpF P ops Grows W Q (o :: rest) (Za v :: fs) ks a := by
 unfold wpF fStep
 rw [if_pos hw]
 refine ⟨fun w hW _ => ?_, fun x => Zcg _ _ ks _ _ (fun k hk => List.mem_cons_of_mem _ hk) h2⟩
 unfold gives
 rw [h1 w hW]
 exact ⟨Grows.refl w, (), rfl, trivial⟩
theorem Y6 (v : Value) (hw : Region.wanted o (yielded ops a.tmps) = true) (h1 : ∀ w, Grows W w → ks.for (o.looksAt ops) w → (execOp a.eval o).run P w = .ok (.value v) w) (h2 : wpF P ops Grows W Q rest fs ks (a.put o.dst v)) :
 wpF P ops Grows W Q (o :: rest) (Za v :: fs) ks a := by
 unfold wpF fStep
 rw [if_pos hw]
 refine ⟨fun w hW hk => ?_, fun x => Zcg _ _ ks _ _ (fun k hk => List.mem_cons_of_mem _ hk) h2⟩
 unfold gives
 rw [h1 w hW hk]
 exact ⟨Grows.refl w, (), rfl, trivial⟩
theorem Jb (f : FuncId) (args : Array Value) (v : Value) (hw : Region.wanted o (yielded ops a.tmps) = true) (h1 : ∀ w, Grows W w → (execOp a.eval o).run P w = .ok (.enter f args) w)
 (hc : ∀ w, Grows W w → ks.for (o.looksAt ops) w → Calls P f args w fun e w' => e = .returned v ∧ Grows w w') (h2 : wpF P ops Grows W Q rest fs ks (a.put o.dst v)) :
 wpF P ops Grows W Q (o :: rest) (Za v :: fs) ks a := by
 unfold wpF fStep
 rw [if_pos hw]
 refine ⟨fun w hW hk => ?_, fun x => Zcg _ _ ks _ _ (fun k hk => List.mem_cons_of_mem _ hk) h2⟩
 unfold gives
 rw [h1 w hW]
 exact (hc w hW hk).mono fun e w' ⟨he, hg⟩ => ⟨hg, (), he, trivial⟩
theorem f_new (bs : List UInt8) (f : FuncId) (args : Array Value) (hw : Region.wanted o (yielded ops a.tmps) = true) (h1 : ∀ w, Grows W w → (execOp a.eval o).run P w = .ok (.enter f args) w)
 (hc : ∀ w, Grows W w → ks.for (o.looksAt ops) w → Calls P f args w fun e w' => ∃ A m c, e = .returned (.slice A m c) ∧ Sl w' A m c bs ∧ Below w.heap.size w w')
 (h2 : ∀ A c, wpF P ops Grows W Q rest fs ((o.dst, fun w => Sl w A bs.length c bs) :: ks) (a.put o.dst (.slice A bs.length c))) :
 wpF P ops Grows W Q (o :: rest) (Yv bs :: fs) ks a := by
 unfold wpF fStep
 rw [if_pos hw]
 refine ⟨fun w hW hk => ?_, fun x => h2 x.1 x.2⟩
 unfold gives
 rw [h1 w hW]
 refine (hc w hW hk).mono fun e w' ⟨A, m, c, he, hs, hb⟩ => ⟨hb, (A, c), ?_, ?_⟩
 ·rw [he, ← hs.len]; rfl
 ·have := hs.len; subst this; exact hs
theorem Zch {F : Fact Grows} (hw : Region.wanted o (yielded ops a.tmps) = false) (h2 : wpF P ops Grows W Q rest fs ks (a.put o.dst undef)) : wpF P ops Grows W Q (o :: rest) (F :: fs) ks a := by
 unfold wpF fStep
 rw [if_neg (by simp [hw])]
 exact h2
theorem Z2 {w : World} {A : Option Addr} {n c : Nat} {bs : List UInt8} {x : Operand} (ho : o.op = .convert 31 9 x) (hx : a.eval x = .slice A n c) (h : Sl w A n c bs) :
 (execOp a.eval o).run Tryz.prog w = .ok (.value (.string ⟨bs.toArray⟩)) w := by
 unfold execOp
 simp only [ho, hx, Sem.run_bind, Sem.run_pure, Zu h, Result.andThen_ok]
end
theorem Ze (w : World) : Grows w { w with drawn := w.drawn + 1 } := ⟨rfl, rfl, rfl, Nat.le_refl _, fun _ _ => rfl⟩
end Go.Proofs.YtlldcogkcjnejaaGreat
namespace Go.Proofs.YtlldcogkcjnejaaGreat
open Go.RowKit Go.Maps
open Go.WideElems (Fit rd rg pl rd_val elemAt)
theorem Zy {w w' : World} {base : Nat} {e : TypeId} {size : Nat} {v : Value} {n : Nat} {xs : List Value} (h : w.ownsRow base e size v n xs) (hk : ∀ k, v.ownBlock = some k → w'.heap[k]? = w.heap[k]?) : w'.ownsRow base e size v n xs := by
 obtain ⟨h1, h2⟩ := h
 refine ⟨h1, ?_⟩
 rcases h2 with h2 | ⟨g, cap, cur, rfl, hb, hh, r⟩
 ·exact .inl h2
 ·exact .inr ⟨g, cap, cur, rfl, hb, (hk g rfl).trans hh, r⟩
theorem Zs {w : World} {base : Nat} {e : TypeId} {size : Nat} {v : Value} {n : Nat} {xs : List Value} (h : w.ownsRow base e size v n xs) {k : Nat} (hk : v.ownBlock = some k) : ∃ cur, w.heap[k]? = some (.cells cur e (0, 0)) := by
 rcases h.2 with ⟨rfl, _⟩ | ⟨g, cap, cur, rfl, hb, hh, r⟩
 ·simp [Value.ownBlock] at hk
 ·obtain rfl : g = k := by simpa [Value.ownBlock] using hk
  exact ⟨cur, hh⟩
section
variable {H : Type} {P : Program} {k : TypeId} {R R' : Value → Option (DataW H × List MemPlace)} {w w' : World} {b n : Nat} {D : DataW H}
theorem Yn (h : w.ownsMap P k R b n D) (e : w'.heap[b]? = w.heap[b]?) : w'.ownsMap P k R b n D := by
 obtain ⟨es, clock, hb, r⟩ := h
 exact ⟨es, clock, e.trans hb, r⟩
theorem Z7 (h : w.ownsMap P k R b n D) : ∃ es clock, w.heap[b]? = some (.map es clock) := by
 obtain ⟨es, clock, hb, _⟩ := h
 exact ⟨es, clock, hb⟩
theorem Zhc (h : w.ownsMap P k R b n D) : w.ownsMap P k R b (Maps.size D) D := by
 obtain ⟨es, clock, hb, F, hs, rfl⟩ := h
 refine ⟨es, clock, hb, F, ?_, rfl⟩
 simp [Maps.size, length_sorted]
theorem Ze7 (h : w.ownsMap P k R b n D) (hR : ∀ v z, R v = some z → R' v = some z) : w.ownsMap P k R' b n D := by
 obtain ⟨es, clock, hb, F, hs, rfl⟩ := h
 obtain ⟨F1, hmap, _⟩ := F.stay (R' := R') fun x _ z hz => hR _ _ hz
 exact ⟨es, clock, hb, F1, hs, by rw [hmap]⟩
end
def ptrR (made : Nat) (loc : Nat → Nat) : Value → Option (DataW Unit × List MemPlace)
 | .pointer none => some (.lit (.int .i64 (-1)), [])
 | .pointer (some ⟨b, 0, none⟩) => ((List.range made).find? fun i => loc i == b).map fun (i : Nat) => (.lit (.int .i64 (i : Int)), [])
 | _ => none
theorem Zjl (made : Nat) (loc : Nat → Nat) : ptrR made loc (.pointer none) = some (.lit (.int .i64 (-1)), []) := rfl
theorem Zmv {made : Nat} {loc : Nat → Nat} (hinj : ∀ i j, i < made → j < made → loc i = loc j → i = j) {i : Nat} (hi : i < made) : ptrR made loc (.pointer (some ⟨loc i, 0, none⟩)) = some (.lit (.int .i64 (i : Int)), []) := by
 unfold ptrR
 cases h : (List.range made).find? fun j => loc j == loc i with
 | none => simpa using (List.find?_eq_none.1 h) i (List.mem_range.2 hi)
 | some j =>
   have h1 := List.find?_some h
   have h2 := List.mem_range.1 (List.mem_of_find?_eq_some h)
   obtain rfl := hinj j i h2 hi (by simpa using h1)
   simp only [h]
   rfl
theorem Zdc {made : Nat} {loc : Nat → Nat} {v : Value} {z : DataW Unit × List MemPlace} (h : ptrR made loc v = some z) :
 (v = .pointer none ∧ z = (.lit (.int .i64 (-1)), [])) ∨ ∃ i, i < made ∧ v = .pointer (some ⟨loc i, 0, none⟩) ∧ z = (.lit (.int .i64 (i : Int)), []) := by
 unfold ptrR at h
 split at h
 ·cases h; exact .inl ⟨rfl, rfl⟩
 ·rename_i b
  cases hf : (List.range made).find? fun i => loc i == b with
  | none => rw [hf] at h; cases h
  | some i =>
    rw [hf] at h
    cases h
    have h1 := List.find?_some hf
    have h2 := List.mem_range.1 (List.mem_of_find?_eq_some hf)
    have h3 : loc i = b := by simpa using h1
    exact .inr ⟨i, h2, by rw [h3], rfl⟩
 ·cases h
theorem Zhd {made made' : Nat} {loc loc' : Nat → Nat} (hinj : ∀ i j, i < made' → j < made' → loc' i = loc' j → i = j) (hm : made ≤ made') (hl : ∀ i, i < made → loc' i = loc i) (v : Value) (z : DataW Unit × List MemPlace) (h : ptrR made loc v = some z) : ptrR made' loc' v = some z := by
 rcases Zdc h with ⟨rfl, rfl⟩ | ⟨i, hi, rfl, rfl⟩
 ·rfl
 ·rw [← hl i hi]
  exact Zmv hinj (by omega)
structure Geo where
 nb : Nat
 kb : Nat
 pv : Value
 pvs : List Value
 loc : Nat → Nat
 row : Nat → Value
def strB (n : Nm) : Value := .string ⟨n.toArray⟩
def ptrV (b : Nat) : Value := .pointer (some ⟨b, 0, none⟩)
def ChAt (w : World) (own : Nat → Prop) (made : Nat) (loc : Nat → Nat) (v : Value) : Ch → Prop
 | .made n f => n.length ≤ maxLen ∧ f < made ∧ ∃ a b, v = .func (.func 115) #[] #[ptrV b, ptrV a] ∧ own a ∧ own b ∧ Whole w b 111 #[ptrV (loc f)] ∧ Whole w a 9 #[strB n]
 | .moved _ _ => False
 | .taken n => n.length ≤ maxLen ∧ ∃ a, v = .func (.func 118) #[] #[ptrV a] ∧ own a ∧ Whole w a 9 #[strB n]
theorem ChAt.stay {w w' : World} {own own' : Nat → Prop} {made made' : Nat} {loc loc' : Nat → Nat} {v : Value} {c : Ch} (h : ChAt w own made loc v c) (ho : ∀ k, own k → own' k) (hm : made ≤ made') (hl : ∀ i, i < made → loc' i = loc i)
 (hs : ∀ k, own k → (∀ cs t, w.heap[k]? = some (.cells cs t (0, 0)) → t = 111 ∨ t = 9 → w'.heap[k]? = w.heap[k]?)) : ChAt w' own' made' loc' v c := by
 cases c with
 | made n f =>
   obtain ⟨h1, h2, a, b, h3, h4, h5, h6, h7⟩ := h
   exact ⟨h1, by omega, a, b, h3, ho _ h4, ho _ h5, by rw [hl f h2]; exact h6.same (hs b h5 _ _ h6 (.inl rfl)), h7.same (hs a h4 _ _ h7 (.inr rfl))⟩
 | moved n to =>
   exact h.elim
 | taken n =>
   obtain ⟨h1, a, h3, h4, h6⟩ := h
   exact ⟨h1, a, h3, ho _ h4, h6.same (hs a h4 _ _ h6 (.inr rfl))⟩
abbrev Zct (w : World) (made : Nat) (loc : Nat → Nat) (b : Nat) (l : Dir) : Prop := w.ownsMap Tryz.prog 9 (ptrR made loc) b l.length (encD l)
structure Z3 (w : World) (own : Nat → Prop) (G : Geo) (m : Dk) : Prop where
 lt : ∀ k, own k → k < w.heap.size
 names : Zct w m.made G.loc G.nb m.names
 on : own G.nb
 kept : Zct w m.made G.loc G.kb m.kept
 ok : own G.kb
 nk : G.nb ≠ G.kb
 pend : w.ownsRow 0 129 1 G.pv m.pend.length G.pvs
 op : ∀ k, G.pv.ownBlock = some k → own k
 chs : ∀ (i : Nat) v c, G.pvs[i]? = some v → m.pend[i]? = some c → ChAt w own m.made G.loc v c
 inj : ∀ i j, i < m.made → j < m.made → G.loc i = G.loc j → i = j
 cells : ∀ i, i < m.made → Whole w (G.loc i) 114 #[.int .i64 (i : Int), G.row i, .int .i64 ((m.files i).kept : Int)]
 ol : ∀ i, i < m.made → own (G.loc i)
 rows : ∀ i, i < m.made → w.ownsRow 0 5 1 (G.row i) (m.files i).bytes.length ((m.files i).bytes.map byteV)
 or : ∀ i k, i < m.made → (G.row i).ownBlock = some k → own k
 apart : ∀ i j k, i < m.made → j < m.made → (G.row i).ownBlock = some k → (G.row j).ownBlock = some k → i = j
section
variable {w w' : World} {own own' : Nat → Prop} {G : Geo} {m m' : Dk}
theorem Z3.nlen (h : Z3 w own G m) : G.pvs.length = m.pend.length := by have := h.pend.1; omega
theorem Z3.stay (h : Z3 w own G m) (hs : ∀ k, own k → w'.heap[k]? = w.heap[k]?) (hz : w.heap.size ≤ w'.heap.size) : Z3 w' own G m where
 lt k hk := Nat.lt_of_lt_of_le (h.lt k hk) hz
 names := Yn h.names (hs _ h.on)
 on := h.on
 kept := Yn h.kept (hs _ h.ok)
 ok := h.ok
 nk := h.nk
 pend := Zy h.pend fun k hk => hs k (h.op k hk)
 op := h.op
 chs i v c h1 h2 := (h.chs i v c h1 h2).stay (fun _ h => h) (Nat.le_refl _) (fun _ _ => rfl) fun k hk _ _ _ _ => hs k hk
 inj := h.inj
 cells i hi := (h.cells i hi).same (hs _ (h.ol i hi))
 ol := h.ol
 rows i hi := Zy (h.rows i hi) fun k hk => hs k (h.or i k hi hk)
 or := h.or
 apart := h.apart
theorem Z3.like (h : Z3 w own G m) (h1 : m'.made = m.made) (h2 : m'.names = m.names) (h3 : m'.kept = m.kept) (h4 : m'.pend = m.pend) (h5 : m'.files = m.files) : Z3 w own G m' := by
 obtain ⟨a, b, c, d, e, f, g, q, r, s, t, u, v, x, y⟩ := h
 constructor <;> first | assumption | (simp only [h1, h2, h3, h4, h5]; assumption)
theorem Z3.named (h : Z3 w own G m) {l : Dir} {n : Nat} (hn : w'.ownsMap Tryz.prog 9 (ptrR m.made G.loc) G.nb n (encD l)) (hs : ∀ k, k < w.heap.size → k ≠ G.nb → w'.heap[k]? = w.heap[k]?) (hz : w.heap.size ≤ w'.heap.size) : Z3 w' own G { m with names := l } where
 lt k hk := Nat.lt_of_lt_of_le (h.lt k hk) hz
 names := by
  have := Zhc hn
  rw [Zdd] at this
  exact this
 on := h.on
 kept := Yn h.kept (hs _ (h.lt _ h.ok) fun e => h.nk e.symm)
 ok := h.ok
 nk := h.nk
 pend := Zy h.pend fun k hk => hs k (h.lt _ (h.op k hk)) fun e => by
  subst e
  obtain ⟨cur, h1⟩ := Zs h.pend hk
  obtain ⟨es, cl, h2⟩ := Z7 h.names
  rw [h1] at h2; cases h2
 op := h.op
 chs i v c h1 h2 := (h.chs i v c h1 h2).stay (fun _ h => h) (Nat.le_refl _) (fun _ _ => rfl) fun k hk cs t e _ => hs k (h.lt k hk) fun ek => by
  subst ek
  obtain ⟨es, cl, h2⟩ := Z7 h.names
  rw [e] at h2; cases h2
 inj := h.inj
 cells i hi := (h.cells i hi).same (hs _ (h.lt _ (h.ol i hi)) fun e => by
  have h1 := h.cells i hi
  obtain ⟨es, cl, h2⟩ := Z7 h.names
  unfold Whole at h1
  rw [e, h2] at h1; cases h1)
 ol := h.ol
 rows i hi := Zy (h.rows i hi) fun k hk => hs k (h.lt _ (h.or i k hi hk)) fun e => by
  subst e
  obtain ⟨cur, h1⟩ := Zs (h.rows i hi) hk
  obtain ⟨es, cl, h2⟩ := Z7 h.names
  rw [h1] at h2; cases h2
 or := h.or
 apart := h.apart
theorem Z3.keptN (h : Z3 w own G m) {l : Dir} {n : Nat} (hn : w'.ownsMap Tryz.prog 9 (ptrR m.made G.loc) G.kb n (encD l)) (hs : ∀ k, k < w.heap.size → k ≠ G.kb → w'.heap[k]? = w.heap[k]?) (hz : w.heap.size ≤ w'.heap.size) : Z3 w' own G { m with kept := l } where
 lt k hk := Nat.lt_of_lt_of_le (h.lt k hk) hz
 kept := by
  have := Zhc hn
  rw [Zdd] at this
  exact this
 on := h.on
 names := Yn h.names (hs _ (h.lt _ h.on) fun e => h.nk e)
 ok := h.ok
 nk := h.nk
 pend := Zy h.pend fun k hk => hs k (h.lt _ (h.op k hk)) fun e => by
  subst e
  obtain ⟨cur, h1⟩ := Zs h.pend hk
  obtain ⟨es, cl, h2⟩ := Z7 h.kept
  rw [h1] at h2; cases h2
 op := h.op
 chs i v c h1 h2 := (h.chs i v c h1 h2).stay (fun _ h => h) (Nat.le_refl _) (fun _ _ => rfl) fun k hk cs t e _ => hs k (h.lt k hk) fun ek => by
  subst ek
  obtain ⟨es, cl, h2⟩ := Z7 h.kept
  rw [e] at h2; cases h2
 inj := h.inj
 cells i hi := (h.cells i hi).same (hs _ (h.lt _ (h.ol i hi)) fun e => by
  have h1 := h.cells i hi
  obtain ⟨es, cl, h2⟩ := Z7 h.kept
  unfold Whole at h1
  rw [e, h2] at h1; cases h1)
 ol := h.ol
 rows i hi := Zy (h.rows i hi) fun k hk => hs k (h.lt _ (h.or i k hi hk)) fun e => by
  subst e
  obtain ⟨cur, h1⟩ := Zs (h.rows i hi) hk
  obtain ⟨es, cl, h2⟩ := Z7 h.kept
  rw [h1] at h2; cases h2
 or := h.or
 apart := h.apart
theorem Z3.wider (h : Z3 w own G m) (ho : ∀ k, own k → own' k) (hl : ∀ k, own' k → k < w.heap.size) : Z3 w own' G m where
 lt := hl
 names := h.names
 on := ho _ h.on
 kept := h.kept
 ok := ho _ h.ok
 nk := h.nk
 pend := h.pend
 op k hk := ho _ (h.op k hk)
 chs i v c h1 h2 := (h.chs i v c h1 h2).stay ho (Nat.le_refl _) (fun _ _ => rfl) fun _ _ _ _ _ _ => rfl
 inj := h.inj
 cells := h.cells
 ol i hi := ho _ (h.ol i hi)
 rows := h.rows
 or i k hi hk := ho _ (h.or i k hi hk)
 apart := h.apart
theorem Z3.pends (h : Z3 w own G m) {pv : Value} {pvs : List Value} {cs : List Ch} (hp : w'.ownsRow 0 129 1 pv cs.length pvs) (ho : ∀ k, pv.ownBlock = some k → own k) (hz : w.heap.size ≤ w'.heap.size)
 (hs : ∀ k, own k → (∀ cur, w.heap[k]? ≠ some (.cells cur 129 (0, 0))) → w'.heap[k]? = w.heap[k]?)
 (hc : ∀ (i : Nat) v c, pvs[i]? = some v → cs[i]? = some c → ChAt w own m.made G.loc v c) : Z3 w' own { G with pv := pv, pvs := pvs } { m with pend := cs } where
 lt k hk := Nat.lt_of_lt_of_le (h.lt k hk) hz
 names := Yn h.names (hs _ h.on fun cur e => by
  obtain ⟨es, cl, h2⟩ := Z7 h.names
  rw [e] at h2; cases h2)
 on := h.on
 kept := Yn h.kept (hs _ h.ok fun cur e => by
  obtain ⟨es, cl, h2⟩ := Z7 h.kept
  rw [e] at h2; cases h2)
 ok := h.ok
 nk := h.nk
 pend := hp
 op := ho
 chs i v c h1 h2 := (hc i v c h1 h2).stay (fun _ h => h) (Nat.le_refl _) (fun _ _ => rfl) fun k hk cs t e et => hs k hk fun cur e2 => by
  rw [e] at e2
  injection e2 with e2
  injection e2 with _ e2 _
  subst e2
  rcases et with et | et <;> cases et
 inj := h.inj
 cells i hi := (h.cells i hi).same (hs _ (h.ol i hi) fun cur e => by
  have h1 := h.cells i hi
  unfold Whole at h1
  rw [e] at h1
  injection h1 with h1
  injection h1 with _ h1 _
  cases h1)
 ol := h.ol
 rows i hi := Zy (h.rows i hi) fun k hk => hs k (h.or i k hi hk) fun cur e => by
  obtain ⟨cur', h1⟩ := Zs (h.rows i hi) hk
  rw [e] at h1
  injection h1 with h1
  injection h1 with _ h1 _
  cases h1
 or := h.or
 apart := h.apart
theorem Z3.filed (h : Z3 w own G m) {i : Nat} (hi : i < m.made) {v : Value} {f : Fl} (hc : Whole w' (G.loc i) 114 #[.int .i64 (i : Int), v, .int .i64 (f.kept : Int)])
 (hr : w'.ownsRow 0 5 1 v f.bytes.length (f.bytes.map byteV)) (hw : ∀ k, own k → own' k) (hl : ∀ k, own' k → k < w'.heap.size) (ho : ∀ k, v.ownBlock = some k → own' k) (hv : ∀ k, v.ownBlock = some k → (G.row i).ownBlock = some k ∨ ∀ j, j < m.made → (G.row j).ownBlock ≠ some k) 
 (hs : ∀ k, own k → k ≠ G.loc i → (G.row i).ownBlock ≠ some k → w'.heap[k]? = w.heap[k]?) : Z3 w' own' { G with row := fun j => if j = i then v else G.row j } (m.setFile i f) := by
 have rowT : ∀ {k : Nat} {cs : Array Value} {t : TypeId}, w.heap[k]? = some (.cells cs t (0, 0)) → t ≠ 5 → (G.row i).ownBlock ≠ some k := fun hk ht e => by
  obtain ⟨cur, h1⟩ := Zs (h.rows i hi) e
  rw [hk] at h1
  injection h1 with h1
  injection h1 with _ h1 _
  exact ht h1
 have locT : ∀ {k : Nat} {cs : Array Value} {t : TypeId}, w.heap[k]? = some (.cells cs t (0, 0)) → t ≠ 114 → k ≠ G.loc i := fun hk ht e => by
  have h1 := h.cells i hi
  unfold Whole at h1
  rw [← e, hk] at h1
  injection h1 with h1
  injection h1 with _ h1 _
  exact ht h1
 have mapT : ∀ {k : Nat}, (∃ es cl, w.heap[k]? = some (.map es cl)) → k ≠ G.loc i ∧ (G.row i).ownBlock ≠ some k := fun ⟨es, cl, hk⟩ => by
  refine ⟨fun e => ?_, fun e => ?_⟩
  ·have h1 := h.cells i hi
   unfold Whole at h1
   rw [← e, hk] at h1; cases h1
  ·obtain ⟨cur, h1⟩ := Zs (h.rows i hi) e
   rw [hk] at h1; cases h1
 constructor
 ·exact hl
 ·exact Yn h.names (hs _ h.on (mapT (Z7 h.names)).1 (mapT (Z7 h.names)).2)
 ·exact hw _ h.on
 ·exact Yn h.kept (hs _ h.ok (mapT (Z7 h.kept)).1 (mapT (Z7 h.kept)).2)
 ·exact hw _ h.ok
 ·exact h.nk
 ·exact Zy h.pend fun k hk => by
   obtain ⟨cur, h1⟩ := Zs h.pend hk
   exact hs k (h.op k hk) (locT h1 (by decide)) (rowT h1 (by decide))
 ·exact fun k hk => hw _ (h.op k hk)
 ·exact fun j u c h1 h2 => (h.chs j u c h1 h2).stay hw (Nat.le_refl _) (fun _ _ => rfl) fun k hk cs t e et => hs k hk (locT e (by rcases et with rfl | rfl <;> decide)) (rowT e (by rcases et with rfl | rfl <;> decide))
 ·exact h.inj
 ·intro j hj
  by_cases e : j = i
  ·subst e
   simp only [Dk.setFile, if_pos rfl]
   exact hc
  ·simp only [Dk.setFile, if_neg e]
   have h1 := h.cells j hj
   exact h1.same (hs _ (h.ol j hj) (fun e2 => e (h.inj _ _ hj hi e2)) (rowT h1 (by decide)))
 ·exact fun i hi => hw _ (h.ol i hi)
 ·intro j hj
  by_cases e : j = i
  ·subst e
   simp only [Dk.setFile, if_pos rfl]
   exact hr
  ·simp only [Dk.setFile, if_neg e]
   refine Zy (h.rows j hj) fun k hk => ?_
   obtain ⟨cur, h1⟩ := Zs (h.rows j hj) hk
   exact hs k (h.or j k hj hk) (locT h1 (by decide)) fun e2 => e (h.apart _ _ _ hj hi hk e2)
 ·intro j k hj hk
  by_cases e : j = i
  ·subst e
   simp only [if_pos rfl] at hk
   exact ho k hk
  ·simp only [if_neg e] at hk
   exact hw _ (h.or j k hj hk)
 ·intro a b k ha hb hka hkb
  have aux : ∀ x, x < m.made → x ≠ i → (G.row x).ownBlock = some k → v.ownBlock = some k → False := fun x hx hxi h1 h2 => by
   rcases hv k h2 with h3 | h3
   ·exact hxi (h.apart _ _ _ hx hi h1 h3)
   ·exact h3 x hx h1
  by_cases e : a = i
  ·by_cases e' : b = i
   ·rw [e, e']
   ·simp only [if_pos e] at hka
    simp only [if_neg e'] at hkb
    exact (aux b hb e' hkb hka).elim
  ·simp only [if_neg e] at hka
   by_cases e' : b = i
   ·simp only [if_pos e'] at hkb
    exact (aux a ha e hka hkb).elim
   ·simp only [if_neg e'] at hkb
    exact h.apart _ _ _ ha hb hka hkb
theorem Z3.making (h : Z3 w own G m) {b : Nat} (hb : Whole w b 114 #[.int .i64 (m.made : Int), .slice none 0 0, .int .i64 0]) (hn : ¬ own b) :
 Z3 w (fun k => own k ∨ k = b) { G with loc := fun j => if j = m.made then b else G.loc j, row := fun j => if j = m.made then .slice none 0 0 else G.row j } { m with files := fun j => if j = m.made then ⟨[], 0⟩ else m.files j, made := m.made + 1 } := by
 have hinj : ∀ i j, i < m.made + 1 → j < m.made + 1 → (if i = m.made then b else G.loc i) = (if j = m.made then b else G.loc j) → i = j := fun i j hi hj e => by
  by_cases h1 : i = m.made
  ·by_cases h2 : j = m.made
   ·omega
   ·rw [if_pos h1, if_neg h2] at e
    exact (hn (e ▸ h.ol j (by omega))).elim
  ·by_cases h2 : j = m.made
   ·rw [if_neg h1, if_pos h2] at e
    exact (hn (e ▸ h.ol i (by omega))).elim
   ·rw [if_neg h1, if_neg h2] at e
    exact h.inj _ _ (by omega) (by omega) e
 have hloc : ∀ i, i < m.made → (if i = m.made then b else G.loc i) = G.loc i := fun i hi => if_neg (by omega)
 constructor
 ·rintro k (hk | rfl)
  ·exact h.lt k hk
  ·exact hb.lt
 ·exact Ze7 h.names (Zhd hinj (Nat.le_succ _) hloc)
 ·exact .inl h.on
 ·exact Ze7 h.kept (Zhd hinj (Nat.le_succ _) hloc)
 ·exact .inl h.ok
 ·exact h.nk
 ·exact h.pend
 ·exact fun k hk => .inl (h.op k hk)
 ·exact fun i v c h1 h2 => (h.chs i v c h1 h2).stay (fun _ h => .inl h) (Nat.le_succ _) hloc fun _ _ _ _ _ _ => rfl
 ·exact hinj
 ·intro i hi
  by_cases e : i = m.made
  ·simp only [if_pos e]
   subst e
   exact hb
  ·simp only [if_neg e]
   exact h.cells i (by have : i < m.made + 1 := hi; omega)
 ·intro i hi
  by_cases e : i = m.made
  ·simp only [if_pos e]
   exact .inr trivial
  ·simp only [if_neg e]
   exact .inl (h.ol i (by have : i < m.made + 1 := hi; omega))
 ·intro i hi
  by_cases e : i = m.made
  ·simp only [if_pos e]
   exact ⟨rfl, .inl ⟨rfl, rfl⟩⟩
  ·simp only [if_neg e]
   exact h.rows i (by have : i < m.made + 1 := hi; omega)
 ·intro i k hi hk
  by_cases e : i = m.made
  ·simp only [if_pos e] at hk
   cases hk
  ·simp only [if_neg e] at hk
   exact .inl (h.or i k (by have : i < m.made + 1 := hi; omega) hk)
 ·intro i j k hi hj h1 h2
  by_cases e : i = m.made
  ·simp only [if_pos e] at h1
   cases h1
  ·by_cases e' : j = m.made
   ·simp only [if_pos e'] at h2
    cases h2
   ·simp only [if_neg e] at h1
    simp only [if_neg e'] at h2
    exact h.apart _ _ _ (by have : i < m.made + 1 := hi; omega) (by have : j < m.made + 1 := hj; omega) h1 h2
end
def Ja (m : Dk) (nb kb : Nat) (pv : Value) : Array Value :=
 #[.int .i64 m.most, .int .i64 (m.made : Int), .int .i64 m.used, .map (some nb), .map (some kb), pv, .int .i64 m.done, .int .i64 m.fail, .int .i64 m.cut, .bool m.down]
structure DkAt (w : World) (d : Nat) (own : Nat → Prop) (G : Geo) (m : Dk) : Prop where
 rest : Z3 w own G m
 top : Whole w d 59 (Ja m G.nb G.kb G.pv)
 free : ¬ own d
def DkTo (w : World) (d : Nat) (own : Nat → Prop) (w' : World) (m' : Dk) : Prop :=
 ∃ own' G', DkAt w' d own' G' m' ∧ Zc (fun k => k = d ∨ own k) w w' ∧ ∀ k, own' k → own k ∨ w.heap.size ≤ k
section
variable {w w' w'' : World} {d : Nat} {own : Nat → Prop} {G : Geo} {m m' : Dk}
theorem DkAt.stay (h : DkAt w d own G m) (hs : ∀ k, k = d ∨ own k → w'.heap[k]? = w.heap[k]?) (hz : w.heap.size ≤ w'.heap.size) : DkAt w' d own G m :=
 ⟨h.rest.stay (fun k hk => hs k (.inr hk)) hz, h.top.same (hs d (.inl rfl)), h.free⟩
theorem DkAt.lt (h : DkAt w d own G m) {k : Nat} (hk : k = d ∨ own k) : k < w.heap.size := by
 rcases hk with rfl | hk
 ·exact h.top.lt
 ·exact h.rest.lt k hk
theorem DkAt.grow (h : DkAt w d own G m) (hg : Grows w w') : DkAt w' d own G m := h.stay (fun k hk => hg.block k (h.lt hk)) hg.size
theorem DkAt.spare (h : DkAt w d own G m) {oth : Nat → Prop} (hs : Zc oth w w') (hn : ∀ k, k = d ∨ own k → ¬ oth k) : DkAt w' d own G m := h.stay (fun k hk => hs.same k (h.lt hk) (hn k hk)) hs.size
theorem DkAt.retop (h : DkAt w d own G m) (ht : Whole w' d 59 (Ja m' G.nb G.kb G.pv)) (hs : Zc (fun k => k = d) w w')
 (h1 : m'.made = m.made) (h2 : m'.names = m.names) (h3 : m'.kept = m.kept) (h4 : m'.pend = m.pend) (h5 : m'.files = m.files) : DkAt w' d own G m' :=
 ⟨(h.rest.stay (fun k hk => hs.same k (h.rest.lt k hk) fun e => h.free (e ▸ hk)) hs.size).like h1 h2 h3 h4 h5, ht, h.free⟩
end
end Go.Proofs.YtlldcogkcjnejaaGreat
