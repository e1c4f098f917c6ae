/-
  A disk, plainly: files by the numbers of their making, names in order, what was done to names since they were kept; and what its calls do to it.
-/
import Derived.Test.YtdkpbphgaenlnaaGreatSeat
import Derived.Maps.OwnSet
import Derived.Sort.KeysCollected
import Derived.IntWalk
import Derived.RowKit
namespace Go.Proofs.YtdkpbphgaenlnaaGreat
open Go.RowKit

abbrev Nm := List UInt8
/-- Names, in order, each of a file. -/
abbrev Dir := List (Nm × Nat)
def Dir.ins (x : Nm × Nat) : Dir → Dir
  | [] => [x]
  | y :: r => if bytesBefore x.1 y.1 then x :: y :: r else y :: Dir.ins x r
def Dir.del (n : Nm) (l : Dir) : Dir := l.filter fun p => !(p.1 == n)
def Dir.put (n : Nm) (f : Nat) (l : Dir) : Dir := Dir.ins (n, f) (Dir.del n l)
def Dir.find (n : Nm) (l : Dir) : Option Nat := (l.find? fun p => p.1 == n).map (·.2)
/-- What is done to names. -/
inductive Ch where
  | made (n : Nm) (f : Nat)
  | moved (n to : Nm)
  | taken (n : Nm)
def Ch.on : Ch → Dir → Dir
  | .made n f, l => Dir.put n f l
  | .moved n to, l => match Dir.find n l with
    | some f => Dir.put to f (Dir.del n l)
    | none => l
  | .taken n, l => Dir.del n l
def redo (cs : List Ch) (l : Dir) : Dir := cs.foldl (fun l c => c.on l) l

structure Fl where
  bytes : List UInt8
  kept : Nat
structure Dk where
  most : Int
  made : Nat
  used : Int
  names : Dir
  kept : Dir
  pend : List Ch
  done : Int
  fail : Int
  cut : Int
  down : Bool
  files : Nat → Fl

def Dk.new (most : Int) : Dk := ⟨min (max most 0) 67108864, 0, 0, [], [], [], 0, -1, -1, false, fun _ => ⟨[], 0⟩⟩
/-- One thing sooner. -/
def sooner (x : Int) : Int := if 0 < x then x - 1 else x
def Dk.sooner (m : Dk) : Dk := { m with cut := Go.Proofs.YtdkpbphgaenlnaaGreat.sooner m.cut, fail := Go.Proofs.YtdkpbphgaenlnaaGreat.sooner m.fail }
/-- A thing. -/
def Dk.thing (m : Dk) (does : Dk → Dk) : Dk × Int :=
  if m.down then (m, 82)
  else if m.cut = 0 then ({ m.sooner with cut := -1, down := true }, 82)
  else if m.fail = 0 then ({ m.sooner with fail := -1 }, 81)
  else ({ does m.sooner with done := wrap64 ((does m.sooner).done + 1) }, 0)
def right (n : Nm) : Bool := decide (1 ≤ n.length) && decide (n.length ≤ 16)
def Dk.change (m : Dk) (c : Ch) : Dk := { m with names := c.on m.names, pend := m.pend ++ [c] }
def Dk.setFile (m : Dk) (i : Nat) (f : Fl) : Dk := { m with files := fun j => if j = i then f else m.files j }
def Dk.doCreate (n : Nm) (m : Dk) : Dk :=
  let m1 : Dk := { m with files := fun j => if j = m.made then ⟨[], 0⟩ else m.files j, made := m.made + 1 }
  m1.change (.made n m.made)
def Dk.doAppend (f : Nat) (b : List UInt8) (m : Dk) : Dk :=
  { m.setFile f ⟨(m.files f).bytes ++ b, (m.files f).kept⟩ with used := wrap64 (m.used + b.length) }
def Dk.doSync (f : Nat) (m : Dk) : Dk := m.setFile f ⟨(m.files f).bytes, (m.files f).bytes.length⟩
def Dk.size (m : Dk) (n : Nm) : Int × Bool := match Dir.find n m.names with
  | some f => ((m.files f).bytes.length, true)
  | none => (0, false)
def Dk.doRename (n to : Nm) (m : Dk) : Dk := Dk.change { m with used := wrap64 (m.used - (m.size to).1) } (.moved n to)
def Dk.doRemove (f : Nat) (n : Nm) (m : Dk) : Dk := Dk.change { m with used := wrap64 (m.used - (m.files f).bytes.length) } (.taken n)
def Dk.keep (m : Dk) (k : Nat) : Dk := { m with kept := redo (m.pend.take k) m.kept, pend := [] }

def Dk.create (m : Dk) (n : Nm) : Dk × Int :=
  if m.down then (m, 82)
  else if right n = false then (m, 1)
  else if (Dir.find n m.names).isSome then (m, 4)
  else if 4096 ≤ m.names.length then (m, 2)
  else m.thing (Dk.doCreate n)
def Dk.append (m : Dk) (n : Nm) (b : List UInt8) : Dk × Int :=
  if m.down then (m, 82)
  else match Dir.find n m.names with
    | none => (m, 3)
    | some f => if m.most < wrap64 (m.used + b.length) then (m, 5) else m.thing (Dk.doAppend f b)
def Dk.sync (m : Dk) (n : Nm) : Dk × Int :=
  if m.down then (m, 82)
  else match Dir.find n m.names with
    | none => (m, 3)
    | some f => m.thing (Dk.doSync f)
def Dk.rename (m : Dk) (n to : Nm) : Dk × Int :=
  if m.down then (m, 82)
  else match Dir.find n m.names with
    | none => (m, 3)
    | some _ => if right to = false ∨ to = n then (m, 1) else m.thing (Dk.doRename n to)
def Dk.remove (m : Dk) (n : Nm) : Dk × Int :=
  if m.down then (m, 82)
  else match Dir.find n m.names with
    | none => (m, 3)
    | some f => m.thing (Dk.doRemove f n)
def Dk.syncDir (m : Dk) : Dk × Int := m.thing fun m => m.keep m.pend.length
def Dk.setFail (m : Dk) (x : Int) : Dk := { m with fail := if 0 ≤ x then x else m.fail }
def Dk.setCut (m : Dk) (x : Int) : Dk := { m with cut := if 0 ≤ x then x else m.cut }
/-- How many bytes of a list are for a file. -/
def more (l : List Int) (k : Nat) : Int := if l.length = 0 then 0 else l.getD (k % l.length) 0
def Fl.lose (f : Fl) (x : Int) : Fl :=
  let n := f.kept + (min (max x 0) ((f.bytes.length : Int) - f.kept)).toNat
  ⟨f.bytes.take n, n⟩
def Dk.boot (m : Dk) (dirs : Int) (l : List Int) : Dk :=
  let m1 := m.keep (min (max dirs 0) m.pend.length).toNat
  let fs : Nat → Fl := fun i => if m1.kept.any (fun p => p.2 == i) then (m.files i).lose (more l i) else m.files i
  { m1 with names := m1.kept, files := fs, used := wrap64 ((m1.kept.map fun p => ((fs p.2).bytes.length : Int)).sum), fail := -1, cut := -1, down := false }
def Dk.read (m : Dk) (n : Nm) (x k : Int) : Option (List UInt8) × Int :=
  if m.down then (none, 82)
  else match Dir.find n m.names with
    | none => (none, 3)
    | some f => if x < 0 ∨ k < 0 ∨ ((m.files f).bytes.length : Int) < x ∨ ((m.files f).bytes.length : Int) - x < k then (none, 1)
      else (some (((m.files f).bytes.drop x.toNat).take k.toNat), 0)

/-! Names as a map's datum. -/
section
variable {H : Type}
def encD (l : Dir) : DataW H := .map (l.map fun p => (.string p.1, .lit (.int .i64 (p.2 : Int))))
theorem sameStr (a b : Nm) : (Lit.string a).sameKey (.string b) = (a == b) := rfl
theorem insert_enc (n : Nm) (f : Nat) : ∀ l : Dir, DataW.insert (H := H) (.string n, .lit (.int .i64 (f : Int))) (l.map fun p => (.string p.1, .lit (.int .i64 (p.2 : Int)))) = (Dir.ins (n, f) l).map fun p => (.string p.1, .lit (.int .i64 (p.2 : Int)))
  | [] => rfl
  | y :: r => by
    show (if bytesBefore n y.1 then _ else _) = _
    unfold Dir.ins
    by_cases h : bytesBefore n y.1 = true
    · rw [if_pos h, if_pos h]; rfl
    · rw [if_neg h, if_neg h, List.map_cons, ← insert_enc n f r]
theorem del_enc (n : Nm) (l : Dir) : (encD (H := H) l).del (.string n) = encD (Dir.del n l) := by
  unfold encD DataW.del Dir.del
  simp only [List.filter_map]
  rfl
theorem put_enc (n : Nm) (f : Nat) (l : Dir) : (encD (H := H) l).put (.string n) (.lit (.int .i64 (f : Int))) = encD (Dir.put n f l) := by
  unfold encD DataW.put Dir.put Dir.del
  simp only [List.filter_map]
  show DataW.map (DataW.insert _ (List.map _ _)) = _
  rw [insert_enc]
  rfl
theorem at_enc (n : Nm) (l : Dir) (z : DataW H) : (encD l).atKey (.string n) z = match Dir.find n l with
    | some f => .lit (.int .i64 (f : Int))
    | none => z := by
  unfold encD DataW.atKey Dir.find
  simp only [List.find?_map]
  have : ((fun p : Lit × DataW H => p.1.sameKey (.string n)) ∘ fun p : Nm × Nat => ((Lit.string p.1, DataW.lit (.int .i64 (p.2 : Int))) : Lit × DataW H)) = fun p => p.1 == n := rfl
  rw [this]
  cases List.find? (fun p : Nm × Nat => p.1 == n) l <;> rfl
theorem has_enc (n : Nm) (l : Dir) : Maps.has (encD (H := H) l) (.string n) = (Dir.find n l).isSome := by
  unfold encD Dir.find
  rw [Maps.has_eq, List.any_map, Option.isSome_map]
  have : ((fun p : Lit × DataW H => p.1.sameKey (.string n)) ∘ fun p : Nm × Nat => ((Lit.string p.1, DataW.lit (.int .i64 (p.2 : Int))) : Lit × DataW H)) = fun p => p.1 == n := rfl
  rw [this]
  cases h : List.find? (fun p : Nm × Nat => p.1 == n) l with
  | none =>
    have := List.find?_eq_none.1 h
    simpa using this
  | some p =>
    have h1 := List.find?_some h
    have h2 := List.mem_of_find?_eq_some h
    exact List.any_eq_true.2 ⟨p, h2, h1⟩
theorem size_enc (l : Dir) : Maps.size (encD (H := H) l) = l.length := by simp [encD, Maps.size]
theorem keys_enc (l : Dir) : strKeys (encD (H := H) l) = l.map (·.1) := by
  simp only [encD, strKeys, List.map_map]
  rfl
theorem enc_inj {l l' : Dir} (h : encD (H := H) l = encD l') : l = l' := by
  unfold encD at h
  injection h with h
  have inj : Function.Injective (fun p : Nm × Nat => ((Lit.string p.1, DataW.lit (.int .i64 (p.2 : Int))) : Lit × DataW H)) := by
    rintro ⟨a, b⟩ ⟨c, d⟩ e
    simp only [Prod.mk.injEq, Lit.string.injEq, DataW.lit.injEq, Lit.int.injEq] at e
    obtain ⟨rfl, _, e⟩ := e
    simp only [Prod.mk.injEq, true_and]
    omega
  exact (List.map_inj_right fun x y e => inj e).1 h
end
end Go.Proofs.YtdkpbphgaenlnaaGreat
