import Derived.Test.YtlldcogkcjnejaaGreatMG07
import Derived.Test.YtlldcogkcjnejaaGreatMG06
set_option linter.unusedVariables false
namespace Go.Proofs.YtlldcogkcjnejaaGreat
open Go.RowKit
theorem Zdo {n : Nm} {l : Dir} {y : Nm × Nat} : y ∈ Dir.del n l ↔ y ∈ l ∧ y.1 ≠ n := by
 unfold Dir.del
 rw [List.mem_filter]
 simp
theorem Zdb {n : Nm} {f : Nat} {l : Dir} (h : Dir.find n l = some f) : (n, f) ∈ l := by
 unfold Dir.find at h
 obtain ⟨p, hp, e⟩ := Option.map_eq_some_iff.1 h
 have h1 := List.find?_some hp
 have h2 := List.mem_of_find?_eq_some hp
 have h1 : p.1 = n := by simpa using h1
 subst h1; subst e
 exact h2
/-! What was synced, and one more file beside it. -/
structure KI (m : Dk) (A B : List UInt8) : Prop where
 file : m.files 0 = ⟨A ++ B, A.length⟩
 kept : Dir.find [120] m.kept = some 0
 pend : ∀ c ∈ m.pend, ∃ n f, c = .made n f ∧ n ≠ [120]
 made : 1 ≤ m.made
 other : ∀ n f, n ≠ [120] → Dir.find n m.names = some f → f ≠ 0
section
variable {m : Dk} {A B : List UInt8}
end
end Go.Proofs.YtlldcogkcjnejaaGreat
namespace Go.Proofs.YtlldcogkcjnejaaGreat
open Go.RowKit
structure Rf where
 most : Int
 files : List Fl
 names : Dir
 kept : Dir
 pend : List Ch
 did : Int
 fail : Int
 cut : Int
 down : Bool
def Rf.new (most : Int) : Rf := ⟨min (max most 0) 67108864, [], [], [], [], 0, -1, -1, false⟩
def rput (e : Nm × Nat) : Dir → Dir
 | [] => [e]
 | y :: r => if bytesBefore y.1 e.1 then y :: rput e r else e :: Dir.del e.1 (y :: r)
def rdoes (c : Ch) (l : Dir) : Dir := match c with
 | .made n f => rput (n, f) l
 | .taken n => Dir.del n l
 | .moved n to => match Dir.find n l with
   | some f => rput (to, f) (Dir.del n l)
   | none => l
def Rf.sooner (m : Rf) : Rf := { m with cut := Go.Proofs.YtlldcogkcjnejaaGreat.sooner m.cut, fail := Go.Proofs.YtlldcogkcjnejaaGreat.sooner m.fail }
def Rf.thing (m : Rf) : Rf × Int :=
 if m.cut = 0 then ({ m.sooner with down := true, cut := -1 }, 82)
 else if m.fail = 0 then ({ m.sooner with fail := -1 }, 81)
 else ({ m.sooner with did := wrap64 (m.did + 1) }, 0)
def Rf.change (m : Rf) (c : Ch) : Rf := { m with names := rdoes c m.names, pend := m.pend ++ [c] }
def Rf.set (m : Rf) (k : Nat) (f : Fl) : Rf := { m with files := m.files.set k f }
def Rf.len (m : Rf) (f : Nat) : Nat := (m.files.getD f ⟨[], 0⟩).bytes.length
def Rf.used (m : Rf) : Nat := (m.names.map fun p => m.len p.2).sum
def Rf.create (m : Rf) (n : Nm) : Rf × Int :=
 if m.down then (m, 82)
 else if right n = false then (m, 1)
 else if (Dir.find n m.names).isSome then (m, 4)
 else if 4096 ≤ m.names.length then (m, 2)
 else if m.thing.2 = 0 then (({ m.thing.1 with files := m.files ++ [(⟨[], 0⟩ : Fl)] } : Rf).change (.made n m.files.length), 0) else m.thing
def Rf.append (m : Rf) (n : Nm) (b : List UInt8) : Rf × Int :=
 if m.down then (m, 82)
 else match Dir.find n m.names with
  | none => (m, 3)
  | some f => if m.most - m.used < b.length then (m, 5) else if m.thing.2 = 0 then (m.thing.1.set f ⟨(m.files.getD f ⟨[], 0⟩).bytes ++ b, (m.files.getD f ⟨[], 0⟩).kept⟩, 0) else m.thing
def Rf.sync (m : Rf) (n : Nm) : Rf × Int :=
 if m.down then (m, 82)
 else match Dir.find n m.names with
  | none => (m, 3)
  | some f => if m.thing.2 = 0 then (m.thing.1.set f ⟨(m.files.getD f ⟨[], 0⟩).bytes, (m.files.getD f ⟨[], 0⟩).bytes.length⟩, 0) else m.thing
def Rf.remove (m : Rf) (n : Nm) : Rf × Int :=
 if m.down then (m, 82)
 else match Dir.find n m.names with
  | none => (m, 3)
  | some _ => if m.thing.2 = 0 then (m.thing.1.change (.taken n), 0) else m.thing
def Rf.syncDir (m : Rf) : Rf × Int :=
 if m.down then (m, 82)
 else if m.thing.2 = 0 then ({ m.thing.1 with kept := m.names, pend := [] }, 0) else m.thing
def Rf.setFail (m : Rf) (x : Int) : Rf := { m with fail := if 0 ≤ x then x else m.fail }
def Rf.setCut (m : Rf) (x : Int) : Rf := { m with cut := if 0 ≤ x then x else m.cut }
def rredo (cs : List Ch) (l : Dir) : Dir := cs.foldl (fun l c => rdoes c l) l
def Rf.boot (m : Rf) (dirs : Int) (l : List Int) : Rf :=
 { m with files := m.files.mapIdx fun i f => f.lose (more l i), names := rredo (m.pend.take dirs.toNat) m.kept, kept := rredo (m.pend.take dirs.toNat) m.kept, pend := [], fail := -1, cut := -1, down := false }
def Rf.size (m : Rf) (n : Nm) : Int × Bool := match Dir.find n m.names with
 | some f => ((m.len f : Nat), true)
 | none => (0, false)
def Rf.read (m : Rf) (n : Nm) (x k : Int) : Option (List UInt8) × Int :=
 if m.down then (none, 82)
 else match Dir.find n m.names with
  | none => (none, 3)
  | some f => if x < 0 ∨ k < 0 ∨ (m.len f : Int) < x ∨ (m.len f : Int) - x < k then (none, 1)
    else (some (((m.files.getD f ⟨[], 0⟩).bytes.drop x.toNat).take k.toNat), 0)
/-! Names in order. -/
theorem bef_irrefl : ∀ a : Nm, bytesBefore a a = false
 | [] => rfl
 | a :: r => by
   have := bef_irrefl r
   simp [bytesBefore, this]
theorem bef_total : ∀ {a b : Nm}, bytesBefore a b = false → a ≠ b → bytesBefore b a = true
 | [], [], _, h => absurd rfl h
 | [], _ :: _, h, _ => by simp [bytesBefore] at h
 | _ :: _, [], _, _ => rfl
 | x :: r, y :: s, h, hne => by
   simp only [bytesBefore, Bool.or_eq_false_iff, decide_eq_false_iff_not, Bool.and_eq_false_iff, beq_eq_false_iff_ne] at h
   simp only [bytesBefore, Bool.or_eq_true, decide_eq_true_eq, Bool.and_eq_true, beq_iff_eq]
   obtain ⟨h1, h2⟩ := h
   by_cases hxy : x = y
   ·subst hxy
    refine .inr ⟨rfl, bef_total (h2.resolve_left fun h => h rfl) fun e => hne (by rw [e])⟩
   ·refine .inl ?_
    have h3 : ¬ x.toNat < y.toNat := h1
    have h4 : x.toNat ≠ y.toNat := fun e => hxy (UInt8.toNat_inj.1 e)
    show y.toNat < x.toNat
    omega
theorem bef_trans : ∀ {a b c : Nm}, bytesBefore a b = true → bytesBefore b c = true → bytesBefore a c = true
 | [], [], _, h, _ => by simp [bytesBefore] at h
 | [], _ :: _, [], _, h => by simp [bytesBefore] at h
 | [], _ :: _, _ :: _, _, _ => rfl
 | _ :: _, [], _, h, _ => by simp [bytesBefore] at h
 | _ :: _, _ :: _, [], _, h => by simp [bytesBefore] at h
 | x :: r, y :: s, z :: t, h, k => by
   simp only [bytesBefore, Bool.or_eq_true, decide_eq_true_eq, Bool.and_eq_true, beq_iff_eq] at h k ⊢
   rcases h with h | ⟨rfl, h⟩
   ·rcases k with k | ⟨rfl, k⟩
    ·left
     have h3 : x.toNat < y.toNat := h
     have h4 : y.toNat < z.toNat := k
     show x.toNat < z.toNat
     omega
    ·exact .inl h
   ·rcases k with k | ⟨rfl, k⟩
    ·exact .inl k
    ·exact .inr ⟨rfl, bef_trans h k⟩
def Yi (l : Dir) : Prop := l.Pairwise fun x y => bytesBefore x.1 y.1 = true
theorem Yi.del {l : Dir} (h : Yi l) (n : Nm) : Yi (Dir.del n l) := List.Pairwise.filter _ h
theorem Zma {e : Nm × Nat} : ∀ {l : Dir}, (∀ y ∈ l, bytesBefore e.1 y.1 = true) → Dir.ins e l = e :: l
 | [], _ => rfl
 | y :: r, h => by
   unfold Dir.ins
   rw [if_pos (h y List.mem_cons_self)]
theorem Zjg {n : Nm} {l : Dir} (h : ∀ y ∈ l, y.1 ≠ n) : Dir.del n l = l := by
 unfold Dir.del
 rw [List.filter_eq_self]
 intro y hy
 simp [h y hy]
theorem Zfv (e : Nm × Nat) : ∀ {l : Dir}, Yi l → rput e l = Dir.put e.1 e.2 l
 | [], _ => rfl
 | y :: r, h => by
   have hr : Yi r := (List.pairwise_cons.1 h).2
   have ih := Zfv e hr
   unfold rput
   by_cases hy : bytesBefore y.1 e.1 = true
   ·rw [if_pos hy, ih]
    have hne : y.1 ≠ e.1 := fun e2 => by rw [e2, bef_irrefl] at hy; cases hy
    have hd : Dir.del e.1 (y :: r) = y :: Dir.del e.1 r := by
     unfold Dir.del
     rw [List.filter_cons, if_pos (by simp [hne])]
    unfold Dir.put
    rw [hd]
    show _ = (if bytesBefore e.1 y.1 then _ else _)
    rw [if_neg]
    intro h2
    have := bef_trans hy h2
    rw [bef_irrefl] at this
    cases this
   ·rw [if_neg hy]
    unfold Dir.put
    refine (Zma fun z hz => ?_).symm
    obtain ⟨hz1, hz2⟩ := Zdo.1 hz
    have hyz : y = z ∨ bytesBefore y.1 z.1 = true := by
     rcases List.mem_cons.1 hz1 with rfl | hz1
     ·exact .inl rfl
     ·exact .inr ((List.pairwise_cons.1 h).1 z hz1)
    rcases hyz with rfl | hyz
    ·exact bef_total (by simpa using hy) hz2
    ·by_cases hye : y.1 = e.1
     ·rw [← hye]; exact hyz
     ·exact bef_trans (bef_total (by simpa using hy) hye) hyz
theorem Zif {e y : Nm × Nat} : ∀ {l : Dir}, y ∈ Dir.ins e l → y = e ∨ y ∈ l
 | [], h => by
   rw [Dir.ins, List.mem_singleton] at h
   exact .inl h
 | z :: r, h => by
   unfold Dir.ins at h
   split at h
   ·exact (List.mem_cons.1 h)
   ·rcases List.mem_cons.1 h with h | h
    ·exact .inr (by rw [h]; exact List.mem_cons_self)
    ·rcases Zif h with h | h
     ·exact .inl h
     ·exact .inr (List.mem_cons_of_mem _ h)
theorem Yi.ins {e : Nm × Nat} : ∀ {l : Dir}, Yi l → (∀ y ∈ l, y.1 ≠ e.1) → Yi (Dir.ins e l)
 | [], _, _ => by
   rw [Dir.ins]
   exact List.pairwise_singleton _ _
 | y :: r, h, hn => by
   obtain ⟨h1, h2⟩ := List.pairwise_cons.1 h
   unfold Dir.ins
   split
   ·rename_i hb
    refine List.pairwise_cons.2 ⟨fun z hz => ?_, h⟩
    rcases List.mem_cons.1 hz with rfl | hz
    ·exact hb
    ·exact bef_trans hb (h1 z hz)
   ·rename_i hb
    refine List.pairwise_cons.2 ⟨fun z hz => ?_, Yi.ins h2 fun z hz => hn z (List.mem_cons_of_mem _ hz)⟩
    rcases Zif hz with rfl | hz
    ·exact bef_total (by simpa using hb) fun e2 => hn y List.mem_cons_self e2.symm
    ·exact h1 z hz
theorem Yi.put {l : Dir} (h : Yi l) (n : Nm) (f : Nat) : Yi (Dir.put n f l) := (h.del n).ins fun y hy => (Zdo.1 hy).2
theorem Yi.on {l : Dir} (h : Yi l) (c : Ch) : Yi (c.on l) := by
 cases c with
 | made n f => exact h.put n f
 | taken n => exact h.del n
 | moved n to =>
   show Yi (match Dir.find n l with | some f => Dir.put to f (Dir.del n l) | none => l)
   cases Dir.find n l with
   | none => exact h
   | some f => exact (h.del n).put to f
theorem Zg5 {l : Dir} (h : Yi l) (c : Ch) : rdoes c l = c.on l := by
 cases c with
 | made n f => exact Zfv (n, f) h
 | taken n => rfl
 | moved n to =>
   show (match Dir.find n l with | some f => rput (to, f) (Dir.del n l) | none => l) = (match Dir.find n l with | some f => Dir.put to f (Dir.del n l) | none => l)
   cases Dir.find n l with
   | none => rfl
   | some f => exact Zfv (to, f) (h.del n)
theorem redo_same : ∀ (cs : List Ch) {l : Dir}, Yi l → rredo cs l = redo cs l ∧ Yi (redo cs l)
 | [], _, h => ⟨rfl, h⟩
 | c :: cs, l, h => by
   show rredo cs (rdoes c l) = redo cs (c.on l) ∧ Yi (redo cs (c.on l))
   rw [Zg5 h]
   exact redo_same cs (h.on c)
end Go.Proofs.YtlldcogkcjnejaaGreat
namespace Go.Proofs.YtlldcogkcjnejaaGreat
open Go.RowKit
theorem Zpb {m : Dk} (hd : m.down = false) (hc : m.cut ≠ 0) (hf : m.fail ≠ 0) (does : Dk → Dk) : m.thing does = ((does m.sooner).bump, 0) := by
 unfold Dk.thing
 rw [if_neg (by rw [hd]; decide), if_neg hc, if_neg hf]
 rfl
theorem Zpc {m : Dk} (hd : m.down = false) (hc : m.cut ≠ 0) (hf : m.fail = 0) (does : Dk → Dk) : m.thing does = ({ m.sooner with fail := -1 }, 81) := by
 unfold Dk.thing
 rw [if_neg (by rw [hd]; decide), if_neg hc, if_pos hf]
theorem Zmz {m : Dk} (hd : m.down = false) (hc : m.cut = 0) (does : Dk → Dk) : m.thing does = ({ m.sooner with cut := -1, down := true }, 82) := by
 unfold Dk.thing
 rw [if_neg (by rw [hd]; decide), if_pos hc]
structure LS (m : Dk) (dw : Bool) (c f : Int) (n z : Nat) (k : Dir) (p : List Ch) (dn : Int) : Prop where
 down : m.down = dw
 cut : m.cut = c
 fail : m.fail = f
 names : m.names = [([97], 0)]
 kept : m.kept = k
 pend : m.pend = p
 most : m.most = 1048576
 used : m.used = n
 len : (m.files 0).bytes.length = n
 kp : (m.files 0).kept = z
 done : m.done = dn
section
variable {m : Dk} {c f : Int} {n z : Nat} {k : Dir} {p : List Ch} {dn : Int} {dw : Bool}
end
end Go.Proofs.YtlldcogkcjnejaaGreat
namespace Go.Proofs.YtlldcogkcjnejaaGreat
open Go.RowKit
def V (l : Dir) : List Nat := l.map (·.2)
def madeI (cs : List Ch) : List Nat := cs.filterMap fun c => match c with
 | .made _ f => some f
 | _ => none
theorem Zfu (e : Nm × Nat) : ∀ l : Dir, (Dir.ins e l).Perm (e :: l)
 | [] => .refl _
 | y :: r => by
   unfold Dir.ins
   split
   ·exact .refl _
   ·exact ((Zfu e r).cons y).trans (.swap e y r)
theorem V_put (n : Nm) (f : Nat) (l : Dir) : (V (Dir.put n f l)).Perm (f :: V (Dir.del n l)) := (Zfu (n, f) (Dir.del n l)).map (fun p : Nm × Nat => p.2)
theorem Y5 (n : Nm) (l : Dir) : (V (Dir.del n l)).Sublist (V l) := List.Sublist.map _ List.filter_sublist
theorem V_mem {n : Nm} {f : Nat} {l : Dir} (h : (n, f) ∈ l) : f ∈ V l := List.mem_map.2 ⟨_, h, rfl⟩
theorem Zdn {n : Nm} {f : Nat} : ∀ {l : Dir}, (V l).Nodup → (n, f) ∈ l → f ∉ V (Dir.del n l)
 | y :: r, h, hm => by
   obtain ⟨h1, h2⟩ := List.nodup_cons.1 (show (y.2 :: V r).Nodup from h)
   intro hf
   rcases List.mem_cons.1 hm with rfl | hm
   ·have : Dir.del n ((n, f) :: r) = Dir.del n r := by
     unfold Dir.del
     rw [List.filter_cons, if_neg (by simp)]
    rw [this] at hf
    exact h1 ((Y5 n r).subset hf)
   ·by_cases hy : y.1 = n
    ·have : Dir.del n (y :: r) = Dir.del n r := by
      unfold Dir.del
      rw [List.filter_cons, if_neg (by simp [hy])]
     rw [this] at hf
     exact Zdn h2 hm hf
    ·have : Dir.del n (y :: r) = y :: Dir.del n r := by
      unfold Dir.del
      rw [List.filter_cons, if_pos (by simp [hy])]
     rw [this] at hf
     rcases List.mem_cons.1 (show f ∈ y.2 :: V (Dir.del n r) from hf) with e | hf
     ·exact h1 (e ▸ V_mem hm)
     ·exact Zdn h2 hm hf
theorem Zq1 {c : Ch} {l : Dir} {R : List Nat} (h : (V l ++ (madeI [c] ++ R)).Nodup) : (V (c.on l) ++ R).Nodup ∧ ∀ i ∈ V (c.on l), i ∈ V l ++ madeI [c] := by
 cases c with
 | made n f =>
   have h : (V l ++ (f :: R)).Nodup := h
   have hp : (V l ++ (f :: R)).Perm (f :: (V l ++ R)) := List.perm_middle
   have h2 := hp.nodup_iff.1 h
   obtain ⟨h3, h4⟩ := List.nodup_cons.1 h2
   have hd : (V (Dir.del n l) ++ R).Nodup := h4.sublist ((Y5 n l).append_right R)
   refine ⟨?_, fun i hi => ?_⟩
   ·refine (((V_put n f l).append_right R).nodup_iff).2 (List.nodup_cons.2 ⟨fun hm => h3 ?_, hd⟩)
    exact ((Y5 n l).append_right R).subset hm
   ·rcases List.mem_cons.1 ((V_put n f l).mem_iff.1 hi) with rfl | hi
    ·exact List.mem_append_right _ (List.mem_singleton.2 rfl)
    ·exact List.mem_append_left _ ((Y5 n l).subset hi)
 | taken n =>
   have h : (V l ++ R).Nodup := h
   exact ⟨h.sublist ((Y5 n l).append_right R), fun i hi => List.mem_append_left _ ((Y5 n l).subset hi)⟩
 | moved n to =>
   have h : (V l ++ R).Nodup := h
   show (V (match Dir.find n l with | some f => Dir.put to f (Dir.del n l) | none => l) ++ R).Nodup ∧ ∀ i ∈ V (match Dir.find n l with | some f => Dir.put to f (Dir.del n l) | none => l), _
   cases hf : Dir.find n l with
   | none => exact ⟨h, fun i hi => List.mem_append_left _ hi⟩
   | some f =>
     have hm := Zdb hf
     have hnd : (V l).Nodup := (List.nodup_append.1 h).1
     have hna := Zdn hnd hm
     have hsub := (Y5 to (Dir.del n l)).trans (Y5 n l)
     refine ⟨?_, fun i hi => ?_⟩
     ·refine (((V_put to f (Dir.del n l)).append_right R).nodup_iff).2 (List.nodup_cons.2 ⟨fun hx => ?_, h.sublist (hsub.append_right R)⟩)
      rcases List.mem_append.1 hx with hx | hx
      ·exact hna ((Y5 to (Dir.del n l)).subset hx)
      ·exact (List.nodup_append.1 h).2.2 f (V_mem hm) f hx rfl
     ·rcases List.mem_cons.1 ((V_put to f (Dir.del n l)).mem_iff.1 hi) with rfl | hi
      ·exact List.mem_append_left _ (V_mem hm)
      ·exact List.mem_append_left _ (hsub.subset hi)
theorem Ze1 (c : Ch) (cs : List Ch) : madeI (c :: cs) = madeI [c] ++ madeI cs := by
 unfold madeI
 cases c <;> simp
theorem Zg3 (a b : List Ch) : madeI (a ++ b) = madeI a ++ madeI b := by unfold madeI; rw [List.filterMap_append]
theorem redo_vals : ∀ (cs : List Ch) {l : Dir} {R : List Nat}, (V l ++ (madeI cs ++ R)).Nodup → (V (redo cs l) ++ R).Nodup ∧ ∀ i ∈ V (redo cs l), i ∈ V l ++ madeI cs
 | [], l, R, h => ⟨h, fun i hi => List.mem_append_left _ hi⟩
 | c :: cs, l, R, h => by
   rw [Ze1, List.append_assoc] at h
   obtain ⟨h1, h2⟩ := Zq1 h
   obtain ⟨h3, h4⟩ := redo_vals cs h1
   refine ⟨h3, fun i hi => ?_⟩
   rw [Ze1]
   rcases List.mem_append.1 (h4 i hi) with hi | hi
   ·rcases List.mem_append.1 (h2 i hi) with hi | hi
    ·exact List.mem_append_left _ hi
    ·exact List.mem_append_right _ (List.mem_append_left _ hi)
   ·exact List.mem_append_right _ (List.mem_append_right _ hi)
/-! How much there is. -/
def S (ln : Nat → Nat) (l : Dir) : Nat := (l.map fun p => ln p.2).sum
theorem Zry {ln : Nat → Nat} {l l' : Dir} (h : l.Perm l') : S ln l = S ln l' := (h.map fun p : Nm × Nat => ln p.2).sum_nat
theorem S_put (ln : Nat → Nat) (n : Nm) (f : Nat) (l : Dir) : S ln (Dir.put n f l) = ln f + S ln (Dir.del n l) := Zry (Zfu (n, f) (Dir.del n l))
theorem S_del {ln : Nat → Nat} {n : Nm} {f : Nat} : ∀ {l : Dir}, Yi l → Dir.find n l = some f → S ln l = ln f + S ln (Dir.del n l)
 | y :: r, h, hf => by
   obtain ⟨h1, h2⟩ := List.pairwise_cons.1 h
   by_cases hy : y.1 = n
   ·have hr : ∀ z ∈ r, z.1 ≠ n := fun z hz e => by
     have := h1 z hz
     rw [e, hy, bef_irrefl] at this
     cases this
    have hd : Dir.del n (y :: r) = r := by
     have := Zjg hr
     unfold Dir.del at this ⊢
     rw [List.filter_cons, if_neg (by simp [hy])]
     exact this
    have hyf : y.2 = f := by
     unfold Dir.find at hf
     rw [List.find?_cons, show (y.1 == n) = true by simpa using hy] at hf
     simpa using hf
    rw [hd, ← hyf]
    rfl
   ·have hd : Dir.del n (y :: r) = y :: Dir.del n r := by
     unfold Dir.del
     rw [List.filter_cons, if_pos (by simp [hy])]
    have hf' : Dir.find n r = some f := by
     unfold Dir.find at hf ⊢
     rw [List.find?_cons, show (y.1 == n) = false by simpa using hy] at hf
     exact hf
    have ih := S_del (ln := ln) h2 hf'
    rw [hd]
    show ln y.2 + S ln r = ln f + (ln y.2 + S ln (Dir.del n r))
    omega
theorem Zg4 {n : Nm} {l : Dir} (h : Dir.find n l = none) : ∀ y ∈ l, y.1 ≠ n := fun y hy e => by
 unfold Dir.find at h
 rw [Option.map_eq_none_iff, List.find?_eq_none] at h
 exact h y hy (by simpa using e)
theorem Zrz {ln : Nat → Nat} {n : Nm} {l : Dir} (h : Dir.find n l = none) : S ln (Dir.del n l) = S ln l := by rw [Zjg (Zg4 h)]
theorem Zql {ln ln' : Nat → Nat} {f b : Nat} (hf : ln' f = ln f + b) (ho : ∀ i, i ≠ f → ln' i = ln i) : ∀ {l : Dir}, (V l).Nodup → S ln' l = S ln l + (if f ∈ V l then b else 0)
 | [], _ => by simp [S, V]
 | y :: r, h => by
   obtain ⟨h1, h2⟩ := List.nodup_cons.1 (show (y.2 :: V r).Nodup from h)
   have ih := Zql hf ho h2
   have hv : V (y :: r) = y.2 :: V r := rfl
   show ln' y.2 + S ln' r = ln y.2 + S ln r + _
   by_cases hy : y.2 = f
   ·have hn : f ∉ V r := hy ▸ h1
    rw [if_neg hn] at ih
    rw [if_pos (by rw [hv, hy]; exact List.mem_cons_self), hy, hf, ih]
    omega
   ·rw [ho _ hy, ih]
    have : (f ∈ V (y :: r)) ↔ f ∈ V r := by
     rw [hv, List.mem_cons]
     exact ⟨fun h => h.resolve_left fun e => hy e.symm, .inr⟩
    by_cases hm : f ∈ V r
    ·rw [if_pos hm, if_pos (this.2 hm)]; omega
    ·rw [if_neg hm, if_neg (fun h => hm (this.1 h))]; omega
theorem Zl9 {ln ln' : Nat → Nat} : ∀ {l : Dir}, (∀ i ∈ V l, ln' i = ln i) → S ln' l = S ln l
 | [], _ => rfl
 | y :: r, h => by
   show ln' y.2 + S ln' r = ln y.2 + S ln r
   rw [h y.2 (List.mem_cons_self), Zl9 fun i hi => h i (List.mem_cons_of_mem _ hi)]
theorem S_le {ln : Nat → Nat} {K : Nat} : ∀ {l : Dir}, (∀ i ∈ V l, ln i ≤ K) → S ln l ≤ l.length * K
 | [], _ => by simp [S]
 | y :: r, h => by
   have ih := S_le (l := r) fun i hi => h i (List.mem_cons_of_mem _ hi)
   have := h y.2 List.mem_cons_self
   show ln y.2 + S ln r ≤ (r.length + 1) * K
   rw [Nat.add_mul]
   omega
structure Gl (m : Dk) (x : Rf) : Prop where
 most : x.most = m.most
 len : x.files.length = m.made
 names : x.names = m.names
 kept : x.kept = m.kept
 pend : x.pend = m.pend
 did : x.did = m.done
 fail : x.fail = m.fail
 cut : x.cut = m.cut
 down : x.down = m.down
 redo : m.names = redo m.pend m.kept
 srt : Yi m.kept
 uniq : (V m.kept ++ madeI m.pend).Nodup
 lt : ∀ i ∈ V m.kept ++ madeI m.pend, i < m.made
 same : ∀ i ∈ V m.kept ++ madeI m.pend, x.files.getD i ⟨[], 0⟩ = m.files i
 used : m.used = (S (fun i => (m.files i).bytes.length) m.names : Nat)
 top : m.most ≤ 67108864
section
variable {m : Dk} {x : Rf} {K : Nat}
theorem Gl.new (y : Int) : Gl (Dk.new y) (Rf.new y) :=
 ⟨rfl, rfl, rfl, rfl, rfl, rfl, rfl, rfl, rfl, rfl, List.Pairwise.nil, List.nodup_nil, fun i hi => (by cases hi), fun i hi => (by cases hi), rfl, by show min (max y 0) 67108864 ≤ 67108864; omega⟩
theorem Gl.srtN (h : Gl m x) : Yi m.names := by rw [h.redo]; exact (redo_same _ h.srt).2
theorem Gl.valN (h : Gl m x) : (V m.names).Nodup ∧ ∀ i ∈ V m.names, i ∈ V m.kept ++ madeI m.pend := by
 rw [h.redo]
 obtain ⟨h1, h2⟩ := redo_vals m.pend (l := m.kept) (R := []) (by rw [List.append_nil]; exact h.uniq)
 rw [List.append_nil] at h1
 exact ⟨h1, h2⟩
theorem Gl.file (h : Gl m x) {n : Nm} {f : Nat} (hf : Dir.find n m.names = some f) : x.files.getD f ⟨[], 0⟩ = m.files f ∧ f < m.made :=
 ⟨h.same f (h.valN.2 f (V_mem (Zdb hf))), h.lt f (h.valN.2 f (V_mem (Zdb hf)))⟩
theorem Gl.usedR (h : Gl m x) : m.used = (x.used : Nat) := by
 rw [h.used]
 unfold Rf.used Rf.len
 rw [h.names]
 congr 1
 exact (Zl9 (ln := fun i => (m.files i).bytes.length) (ln' := fun i => (x.files.getD i ⟨[], 0⟩).bytes.length) fun i hi => by rw [h.same i (h.valN.2 i hi)]).symm
theorem Gl.small (h : Gl m x) (ok : DkOk K m) (hK : K ≤ 100000) : (0 : Int) ≤ m.used ∧ m.used ≤ 10000000000 := by
 rw [h.used]
 have h1 := S_le (ln := fun i => (m.files i).bytes.length) (K := K) (l := m.names) fun i hi => (ok.bytes i (h.lt i (h.valN.2 i hi))).1
 have h2 := ok.names
 have h3 : m.names.length * K ≤ 100000 * 100000 := Nat.mul_le_mul (by omega) hK
 omega
theorem Gl.nums (h : Gl m x) {m' : Dk} {x' : Rf} (a1 : m'.most = m.most) (a2 : m'.made = m.made) (a3 : m'.names = m.names) (a4 : m'.kept = m.kept) (a5 : m'.pend = m.pend) (a6 : m'.files = m.files) (a7 : m'.used = m.used)
 (b1 : x'.most = x.most) (b2 : x'.files = x.files) (b3 : x'.names = x.names) (b4 : x'.kept = x.kept) (b5 : x'.pend = x.pend) (c1 : x'.did = m'.done) (c2 : x'.fail = m'.fail) (c3 : x'.cut = m'.cut) (c4 : x'.down = m'.down) : Gl m' x' :=
 ⟨by rw [b1, a1, h.most], by rw [b2, a2, h.len], by rw [b3, a3, h.names], by rw [b4, a4, h.kept], by rw [b5, a5, h.pend], c1, c2, c3, c4, by rw [a3, a4, a5]; exact h.redo, by rw [a4]; exact h.srt, by rw [a4, a5]; exact h.uniq,
  by rw [a4, a5, a2]; exact h.lt, by rw [a4, a5, b2, a6]; exact h.same, by rw [a7, a6, a3]; exact h.used, by rw [a1]; exact h.top⟩
theorem Gl.change (h : Gl m x) {c : Ch} {u : Int} (hc : ∀ f ∈ madeI [c], f ∉ V m.kept ++ madeI m.pend ∧ f < m.made ∧ x.files.getD f ⟨[], 0⟩ = m.files f) (hu : u = (S (fun i => (m.files i).bytes.length) (c.on m.names) : Nat)) :
 Gl { m with names := c.on m.names, pend := m.pend ++ [c], used := u } (x.change c) := by
 have hm : madeI (m.pend ++ [c]) = madeI m.pend ++ madeI [c] := Zg3 _ _
 refine ⟨h.most, h.len, ?_, h.kept, ?_, h.did, h.fail, h.cut, h.down, ?_, h.srt, ?_, ?_, ?_, hu, h.top⟩
 ·show rdoes c x.names = c.on m.names
  rw [h.names, Zg5 h.srtN]
 ·show x.pend ++ [c] = m.pend ++ [c]
  rw [h.pend]
 ·show c.on m.names = Go.Proofs.YtlldcogkcjnejaaGreat.redo (m.pend ++ [c]) m.kept
  rw [h.redo]
  unfold Go.Proofs.YtlldcogkcjnejaaGreat.redo
  rw [List.foldl_append]
  rfl
 ·show (V m.kept ++ madeI (m.pend ++ [c])).Nodup
  rw [hm, ← List.append_assoc]
  refine List.nodup_append.2 ⟨h.uniq, ?_, fun a ha b hb e => (hc b hb).1 (e ▸ ha)⟩
  cases c <;> simp [madeI]
 ·show ∀ i ∈ V m.kept ++ madeI (m.pend ++ [c]), i < m.made
  rw [hm, ← List.append_assoc]
  intro i hi
  rcases List.mem_append.1 hi with hi | hi
  ·exact h.lt i hi
  ·exact (hc i hi).2.1
 ·show ∀ i ∈ V m.kept ++ madeI (m.pend ++ [c]), x.files.getD i ⟨[], 0⟩ = m.files i
  rw [hm, ← List.append_assoc]
  intro i hi
  rcases List.mem_append.1 hi with hi | hi
  ·exact h.same i hi
  ·exact (hc i hi).2.2
theorem Gl.setF (h : Gl m x) {f : Nat} {v : Fl} {u : Int} (hf : f < m.made) (hu : u = (S (fun i => ((m.setFile f v).files i).bytes.length) m.names : Nat)) : Gl { m.setFile f v with used := u } (x.set f v) := by
 have hl : f < x.files.length := by rw [h.len]; exact hf
 refine ⟨h.most, by show (x.files.set f v).length = m.made; rw [List.length_set, h.len], h.names, h.kept, h.pend, h.did, h.fail, h.cut, h.down, h.redo, h.srt, h.uniq, h.lt, fun i hi => ?_, hu, h.top⟩
 show (x.files.set f v).getD i ⟨[], 0⟩ = if i = f then v else m.files i
 rw [List.getD_eq_getElem?_getD, List.getElem?_set]
 by_cases e : f = i
 ·subst e
  rw [if_pos rfl, if_pos hl, if_pos rfl]
  rfl
 ·rw [if_neg e, if_neg (fun e2 => e e2.symm), ← List.getD_eq_getElem?_getD]
  exact h.same i hi
theorem Gl.soon (h : Gl m x) : Gl m.sooner { x.sooner with did := x.did } := h.nums rfl rfl rfl rfl rfl rfl rfl rfl rfl rfl rfl rfl h.did (by show sooner x.fail = sooner m.fail; rw [h.fail]) (by show sooner x.cut = sooner m.cut; rw [h.cut]) h.down
theorem Gl.thing (h : Gl m x) (hd : m.down = false) (does : Dk → Dk) (X : Rf) (hx : m.cut ≠ 0 → m.fail ≠ 0 → x.thing.1 = { x.sooner with did := wrap64 (x.did + 1) } → Gl (does m.sooner).bump X) :
 (if x.thing.2 = 0 then (X, 0) else x.thing).2 = (m.thing does).2 ∧ Gl (m.thing does).1 (if x.thing.2 = 0 then (X, (0 : Int)) else x.thing).1 := by
 by_cases hc : m.cut = 0
 ·have e : x.thing = ({ x.sooner with down := true, cut := -1 }, 82) := by unfold Rf.thing; rw [if_pos (by rw [h.cut]; exact hc)]
  rw [Zmz hd hc, e]
  exact ⟨rfl, h.soon.nums rfl rfl rfl rfl rfl rfl rfl rfl rfl rfl rfl rfl h.did (by show sooner x.fail = sooner m.fail; rw [h.fail]) rfl rfl⟩
 ·by_cases hf : m.fail = 0
  ·have e : x.thing = ({ x.sooner with fail := -1 }, 81) := by unfold Rf.thing; rw [if_neg (by rw [h.cut]; exact hc), if_pos (by rw [h.fail]; exact hf)]
   rw [Zpc hd hc hf, e]
   exact ⟨rfl, h.soon.nums rfl rfl rfl rfl rfl rfl rfl rfl rfl rfl rfl rfl h.did rfl (by show sooner x.cut = sooner m.cut; rw [h.cut]) h.down⟩
  ·have e : x.thing = ({ x.sooner with did := wrap64 (x.did + 1) }, 0) := by unfold Rf.thing; rw [if_neg (by rw [h.cut]; exact hc), if_neg (by rw [h.fail]; exact hf)]
   have hx' := hx hc hf (by rw [e])
   rw [Zpb hd hc hf, e]
   exact ⟨rfl, hx'⟩
end
end Go.Proofs.YtlldcogkcjnejaaGreat
namespace Go.Proofs.YtlldcogkcjnejaaGreat
open Go.Lib (hid)
open Go.RowKit Go.Maps Go.WideMaps
def Jt (t i0 i : Nat) : Nat := if i < i0 then 0 else t / 256 ^ (i - i0) % 256
def flipK (t i0 e : Nat) (bs : List UInt8) : List UInt8 := bs.mapIdx fun i b => if i < e then UInt8.ofNat (b.toNat ^^^ Jt t i0 i) else b
def flipT (t i0 : Nat) (bs : List UInt8) : List UInt8 := bs.mapIdx fun i b => UInt8.ofNat (b.toNat ^^^ Jt t i0 i)
theorem Yj (t i0 e : Nat) (bs : List UInt8) : (flipK t i0 e bs).length = bs.length := by simp [flipK]
theorem Zt (t i0 : Nat) (bs : List UInt8) : (flipT t i0 bs).length = bs.length := by simp [flipT]
theorem Za2 (b : UInt8) : UInt8.ofNat b.toNat = b := by simp
theorem Zil (t i0 : Nat) (bs : List UInt8) : flipK t i0 i0 bs = bs := by
 refine List.ext_getElem (Yj _ _ _ _) fun i h1 h2 => ?_
 simp only [flipK, List.getElem_mapIdx]
 split
 ·rename_i h
  rw [Jt, if_pos h, Nat.xor_zero, Za2]
 ·rfl
theorem Zhh {t i0 e : Nat} {bs : List UInt8} (h : bs.length ≤ e ∨ (i0 ≤ e ∧ t / 256 ^ (e - i0) = 0)) : flipK t i0 e bs = flipT t i0 bs := by
 refine List.ext_getElem (by rw [Yj, Zt]) fun i h1 h2 => ?_
 rw [Yj] at h1
 simp only [flipK, flipT, List.getElem_mapIdx]
 split
 ·rfl
 ·rename_i hi
  rcases h with h | ⟨h0, h⟩
  ·omega
  ·rw [Jt, if_neg (by omega), show i - i0 = (e - i0) + (i - e) by omega, Nat.pow_add, ← Nat.div_div_eq_div_mul, h, Nat.zero_div, Nat.zero_mod, Nat.xor_zero, Za2]
theorem Zm0 {t i0 e : Nat} {bs : List UInt8} (h : e < bs.length) : (flipK t i0 e bs).getD e 0 = bs.getD e 0 := by
 rw [List.getD_eq_getElem?_getD, List.getD_eq_getElem?_getD, List.getElem?_eq_getElem (by rw [Yj]; exact h), List.getElem?_eq_getElem h]
 simp only [flipK, List.getElem_mapIdx, if_neg (Nat.lt_irrefl e)]
theorem Zko {t i0 e : Nat} {bs : List UInt8} (h : e < bs.length) (he : i0 ≤ e) : (flipK t i0 e bs).set e (UInt8.ofNat ((bs.getD e 0).toNat ^^^ (t / 256 ^ (e - i0) % 256))) = flipK t i0 (e + 1) bs := by
 refine List.ext_getElem (by simp [Yj]) fun i h1 h2 => ?_
 rw [Yj] at h2
 rw [List.getElem_set]
 split
 ·rename_i hi
  subst hi
  simp only [flipK, List.getElem_mapIdx, if_pos (Nat.lt_succ_self e), Jt, if_neg (show ¬ e < i0 by omega)]
  rw [List.getD_eq_getElem?_getD, List.getElem?_eq_getElem h]
  rfl
 ·simp only [flipK, List.getElem_mapIdx]
  by_cases hie : i < e
  ·rw [if_pos hie, if_pos (by omega)]
  ·rw [if_neg hie, if_neg (by omega)]
theorem Zpd {t i0 e z : Nat} {bs : List UInt8} {b b' : UInt8} (h : e < bs.length) (he : i0 ≤ e) (hz : z = t / 256 ^ (e - i0) % 256) (hb : bs.getD e 0 = b) (hb' : UInt8.ofNat (b.toNat ^^^ z) = b') :
 ((flipK t i0 e bs).map byteV).set e (.int .u8 (b'.toNat : Nat)) = (flipK t i0 (e + 1) bs).map byteV := by
 subst hb hb' hz
 rw [← Zko h he, List.map_set]
 rfl
theorem Zjn (b : UInt8) (z : Nat) (hz : z < 256) : bits BinOp.xor IntKind.u8 (b.toNat : Int) (z : Int) = ((UInt8.ofNat (b.toNat ^^^ z)).toNat : Int) := by
 have hb := b.toNat_lt
 rw [Zqk _ _ hb hz]
 have hx : b.toNat ^^^ z < 2 ^ 8 := Nat.xor_lt_two_pow (by omega) (by omega)
 rw [UInt8.toNat_ofNat', Nat.mod_eq_of_lt hx]
section
variable {w : World} {b md n c kp : Nat} {g : Nat} {bs : List UInt8}
set_option maxHeartbeats 8000000 in
set_option maxRecDepth 100000 in
theorem Zm1 (w : World) (h : Whole w b 114 #[.int .i64 (md : Int), .slice (some ⟨g, 0, none⟩) n c, .int .i64 (kp : Int)]) (hr : w.ownsRow 0 5 1 (.slice (some ⟨g, 0, none⟩) n c) n (bs.map byteV)) (hgb : b ≠ g) (hn : n ≤ 1000000000)
 (x : Nat) (hx : x < 8 * n) (z : Nat) (hz : z < 4294967296) :
 Calls Tryz.prog 73 #[.pointer (some ⟨b, 0, none⟩), .int .i64 (x : Int), .int .u32 (z : Int)] w fun e w' => e = .returned (.tuple #[]) ∧ w'.ownsRow 0 5 1 (.slice (some ⟨g, 0, none⟩) n c) n ((flipT (z * 2 ^ (x % 8)) (x / 8) bs).map byteV) ∧ Zc (fun k => k = g) w w' := by
 have hlb : bs.length = n := by have := hr.1; simpa using this
 have HLB := hid hlb
 have H := hid h
 have HR := hid hr
 have hq0 : x / 8 < n := by omega
 have hr0 : x % 8 < 8 := by omega
 have hq2 : ((x : Nat) : Int).tdiv 8 = ((x / 8 : Nat) : Int) := by rw [Int.tdiv_eq_ediv_of_nonneg (by omega)]; omega
 have hr2 : ((x : Nat) : Int).tmod 8 = ((x % 8 : Nat) : Int) := by rw [Int.tmod_eq_emod_of_nonneg (by omega)]; omega
 generalize hqe : x / 8 = q at *
 generalize hre : x % 8 = r at *
 have hzr : z * 2 ^ r < 1099511627776 := by
  have h1 : 2 ^ r ≤ 2 ^ 7 := Nat.pow_le_pow_right (by omega) (by omega)
  have h2 : z * 2 ^ r ≤ z * 2 ^ 7 := Nat.mul_le_mul_left z h1
  omega
 have hw1 : IntKind.u64.wrap (z : Int) = z := IntWalk.u64_in _ (by omega)
 have br0 : (0 : Int) ≤ (r : Int) := by omega
 have br1 : (r : Int) < 8 := by omega
 have hwr : IntKind.i64.wrap (r : Int) = r := IntWalk.i64_in _ (by omega)
 have hwq : IntKind.i64.wrap (q : Int) = q := IntWalk.i64_in _ (by omega)
 have hw2 : IntKind.u64.wrap ((z : Int) * 2 ^ r) = ((z * 2 ^ r : Nat) : Int) := by
  have e : ((z : Int) * 2 ^ r) = ((z * 2 ^ r : Nat) : Int) := by push_cast; rfl
  rw [e]
  exact IntWalk.u64_in _ (by omega)
 clear h hr hqe hre hlb
 go_enter Tryz.func73, Tryz.ntmps73
 go_wp2_with (fail)
 obtain ⟨t, hte⟩ : ∃ t, z * 2 ^ r = t := ⟨_, rfl⟩
 rw [hte] at hzr hw2
 have hts : (z : Int) * 2 ^ r = (t : Int) := by rw [← hte]; push_cast; rfl
 have HT := hid (And.intro hte hts)
 clear hte hw2 hts
 go_loopw [6, 7] (fun vt vi wr => ∃ (e T : Nat), q ≤ e ∧ e ≤ n ∧ T < 1099511627776 ∧ vt = .int .u64 (T : Nat) ∧ vi = .int .i64 (e : Nat) ∧ Hid (T = t / 256 ^ (e - q)) ∧ Hid (wr.ownsRow 0 5 1 (.slice (some ⟨g, 0, none⟩) n c) n ((flipK t q e bs).map byteV)) ∧ Hid (Zc (fun k => k = g) w wr)) (fun _ i _ => n - (intOf i).toNat)
 case atStart => exact ⟨q, t, Nat.le_refl _, by omega, hzr, by rw [HT.out.2], rfl, hid (by rw [Nat.sub_self, Nat.pow_zero, Nat.div_one]), hid (by rw [Zil]; exact HR.out), hid (Zc.refl _ _)⟩
 case round =>
  obtain ⟨e, T, hqe, hen, hT, rfl, rfl, HTT, HRR, HS⟩ := hrel
  have hwh : Whole wr b 114 #[.int .i64 (md : Int), .slice (some ⟨g, 0, none⟩) n c, .int .i64 (kp : Int)] := H.out.same (HS.out.same b H.out.lt hgb)
  have c1 : wr.cell? ⟨b, 1, none⟩ = some (.slice (some ⟨g, 0, none⟩) n c) := hwh.cell 1
  clear hwh
  by_cases hlt : e < n
  ·by_cases hT0 : 0 < T
   ·have heI : (e : Int) < (n : Int) := by omega
    have he0 : (0 : Int) ≤ (e : Int) := by omega
    have hTI : (0 : Int) < (T : Int) := by omega
    have hcell : wr.cell? ⟨g, e, none⟩ = some (.int .u8 ((bs.getD e 0).toNat : Nat)) := by
     rw [HRR.out.cellAt _ (by omega), List.getElem?_map, ← Zm0 (t := t) (i0 := q) (by rw [HLB.out]; exact hlt), List.getD_eq_getElem?_getD, List.getElem?_eq_getElem (by rw [Yj, HLB.out]; exact hlt)]
     rfl
    have hfree : wr.frozen? ⟨g, e, none⟩ = false := HRR.out.frozenAt _
    obtain ⟨y, hy⟩ : ∃ y, T % 256 = y := ⟨_, rfl⟩
    have hwy : IntKind.u8.wrap (T : Int) = (y : Int) := by rw [IntKind.wrap_u8']; omega
    have hy2 : y < 256 := by omega
    obtain ⟨b1, hb1⟩ : ∃ b1, bs.getD e 0 = b1 := ⟨_, rfl⟩
    rw [hb1] at hcell
    have hxb := Zjn b1 y hy2
    obtain ⟨b2, hb2⟩ : ∃ b2, UInt8.ofNat (b1.toNat ^^^ y) = b2 := ⟨_, rfl⟩
    rw [hb2] at hxb
    have HBB := hid (And.intro hb1 (And.intro hb2 hy))
    have hwe : IntKind.i64.wrap ((e : Int) + 1) = (e : Int) + 1 := IntWalk.i64_in _ (by omega)
    clear hb1 hb2 hy
    go_wp2_with (fail)
    refine ⟨⟨e + 1, T / 256, by omega, hlt, by omega, by push_cast; rfl, rfl, hid ?_, hid ?_, hid (HS.out.setCell (p := ⟨g, e, none⟩) rfl _)⟩, ?_⟩
    ·rw [HTT.out, show e + 1 - q = (e - q) + 1 by omega, Nat.pow_succ, Nat.div_div_eq_div_mul]
    ·have hs := (HRR.out.stored e (.int .u8 (b2.toNat : Nat))).1
     rw [Zpd (by rw [HLB.out]; exact hlt) hqe (by rw [← HBB.out.2.2, HTT.out]) HBB.out.1 HBB.out.2.1] at hs
     exact hs
    ·simp only [intOf]
     omega
   ·obtain rfl : T = 0 := by omega
    go_wp2_with (fail)
    go_end0
    exact ⟨rfl, by rw [HT.out.1, ← Zhh (e := e) (.inr ⟨hqe, HTT.out.symm⟩)]; exact HRR.out, HS.out⟩
  ·have heI : ¬ (e : Int) < (n : Int) := by omega
   go_wp2_with (fail)
   go_end0
   exact ⟨rfl, by rw [HT.out.1, ← Zhh (e := e) (.inl (by rw [HLB.out]; omega))]; exact HRR.out, HS.out⟩
end
def Dk.flip (m : Dk) (n : Nm) (x : Int) (z : Nat) : Dk × Bool := match Dir.find n m.names with
 | none => (m, false)
 | some f => if x < 0 ∨ 8 * ((m.files f).bytes.length : Int) ≤ x then (m, false)
   else (m.setFile f ⟨flipT (z * 2 ^ (x.toNat % 8)) (x.toNat / 8) (m.files f).bytes, (m.files f).kept⟩, true)
section
variable {w : World} {d : Nat} {own : Nat → Prop} {G : Geo} {m : Dk}
theorem DkAt.turned {w' : World} (h : DkAt w d own G m) {f : Nat} (hf : f < m.made) {g : Nat} {c : Nat} (hA : G.row f = .slice (some ⟨g, 0, none⟩) (m.files f).bytes.length c) {bs : List UInt8} (hl : bs.length = (m.files f).bytes.length)
 (hr : w'.ownsRow 0 5 1 (.slice (some ⟨g, 0, none⟩) (m.files f).bytes.length c) (m.files f).bytes.length (bs.map byteV)) (hs : Zc (fun k => k = g) w w') : DkAt w' d own G (m.setFile f ⟨bs, (m.files f).kept⟩) := by
 have hgo : own g := h.rest.or f g hf (by rw [hA]; rfl)
 have hdg : d ≠ g := fun e => h.free (e ▸ hgo)
 have hlg : G.loc f ≠ g := fun e => by
  have h1 := h.rest.cells f hf
  obtain ⟨cur, h2⟩ := Zs (h.rest.rows f hf) (k := g) (by rw [hA]; rfl)
  unfold Whole at h1
  rw [e, h2] at h1
  injection h1 with h1
  injection h1 with _ h1 _
  cases h1
 have hrest := h.rest.filed (w' := w') (own' := own) hf (v := G.row f) (f := ⟨bs, (m.files f).kept⟩) ((h.rest.cells f hf).same (hs.same _ (h.rest.cells f hf).lt hlg)) (by rw [hA, hl]; exact hr) (fun k hk => hk) (fun k hk => Nat.lt_of_lt_of_le (h.rest.lt k hk) hs.size) (fun k hk => h.rest.or f k hf hk) (fun k hk => .inl hk)
  (fun k hk _ hne => hs.same k (h.rest.lt k hk) fun e => hne (by rw [e, hA]; rfl))
 have hgeo : ({ G with row := fun j => if j = f then G.row f else G.row j } : Geo) = G := by
  cases G with
  | mk a b c d e r =>
    congr 1
    funext j
    dsimp only
    split
    ·rename_i hj; rw [hj]
    ·rfl
 rw [hgeo] at hrest
 exact ⟨hrest, h.top.same (hs.same d h.top.lt hdg), h.free⟩
set_option maxHeartbeats 4000000 in
set_option maxRecDepth 100000 in
theorem Zpe (w : World) (n : Nm) (x : Int) (z : Nat) (h : DkAt w d own G m) (hF : DkFit m) (hn : n.length ≤ maxLen) (hx : -9223372036854775808 ≤ x ∧ x ≤ 9223372036854775807) (hz : z < 4294967296) :
 Calls Tryz.prog 31 #[.pointer (some ⟨d, 0, none⟩), .string ⟨n.toArray⟩, .int .i64 x, .int .u32 (z : Int)] w fun e w' => e = .returned (.bool (m.flip n x z).2) ∧ DkTo w d own w' (m.flip n x z).1 := by
 have c3 : w.cell? ⟨d, 3, none⟩ = some (.map (some G.nb)) := h.cell 3
 have hl := h.look hn
 cases hf : Dir.find n m.names with
 | none =>
   rw [hf, Zau hf] at hl
   unfold strB at hl
   simp only [Option.isSome] at hl
   have hs : m.flip n x z = (m, false) := by unfold Dk.flip; rw [hf]
   rw [hs]
   have H := hid h
   clear h hn hf hs hF
   go_enter Tryz.func31, Tryz.ntmps31
   go_wp2
   go_ret
   exact ⟨rfl, DkTo.same H.out (Zc.refl _ _)⟩
 | some f =>
   rw [hf, Zbu hf] at hl
   unfold strB ptrV at hl
   simp only [Option.isSome] at hl
   have hlt := h.find_lt hn hf
   obtain ⟨A, c, hA, hbare⟩ := Zq (h.rest.rows f hlt)
   have hwh := h.rest.cells f hlt
   rw [hA] at hwh
   have c1 : w.cell? ⟨G.loc f, 1, none⟩ = some (.slice A (m.files f).bytes.length c) := hwh.cell 1
   have hfit := (hF.bytes f hlt).1
   obtain ⟨k, hk⟩ : ∃ k, (m.files f).bytes.length = k := ⟨_, rfl⟩
   have hw8 : IntKind.i64.wrap (8 * (k : Int)) = 8 * (k : Int) := IntWalk.i64_in _ (by omega)
   by_cases hx0 : x < 0
   ·have hs : m.flip n x z = (m, false) := by unfold Dk.flip; rw [hf]; dsimp only; rw [if_pos (.inl hx0)]
    rw [hs]
    have H := hid h
    clear h hn hf hs hF hwh hA hbare hfit
    go_enter Tryz.func31, Tryz.ntmps31
    go_wp2
    go_ret
    exact ⟨rfl, DkTo.same H.out (Zc.refl _ _)⟩
   by_cases hx1 : 8 * (k : Int) ≤ x
   ·have hs : m.flip n x z = (m, false) := by unfold Dk.flip; rw [hf]; dsimp only; rw [if_pos (.inr (by rw [hk]; exact hx1))]
    rw [hs]
    rw [hk] at c1
    have H := hid h
    clear h hn hf hs hF hwh hA hbare hfit
    generalize G.loc f = lf at *
    go_enter Tryz.func31, Tryz.ntmps31
    go_wp2
    go_ret
    exact ⟨rfl, DkTo.same H.out (Zc.refl _ _)⟩
   obtain ⟨y, rfl⟩ := Int.eq_ofNat_of_zero_le (show 0 ≤ x by omega)
   have hs : m.flip n y z = (m.setFile f ⟨flipT (z * 2 ^ (y % 8)) (y / 8) (m.files f).bytes, (m.files f).kept⟩, true) := by
    unfold Dk.flip; rw [hf]; dsimp only; rw [if_neg (by rw [hk]; omega)]; rfl
   rw [hs]
   rcases A with _ | ad
   ·exfalso
    have hr := (h.rest.rows f hlt)
    rw [hA] at hr
    rcases hr.2 with ⟨_, h0⟩ | ⟨g, cap, cur, he, _⟩
    ·omega
    ·injection he with he; cases he
   obtain ⟨g, rfl⟩ : ∃ g, ad = ⟨g, 0, none⟩ := by
    have hr := (h.rest.rows f hlt)
    rw [hA] at hr
    rcases hr.2 with ⟨he, _⟩ | ⟨g, cap, cur, he, _⟩
    ·injection he with he; cases he
    ·injection he with he; injection he with he; exact ⟨g, he⟩
   have hlg : G.loc f ≠ g := fun e => by
    have h1 := h.rest.cells f hlt
    obtain ⟨cur, h2⟩ := Zs (h.rest.rows f hlt) (k := g) (by rw [hA]; rfl)
    unfold Whole at h1
    rw [e, h2] at h1
    injection h1 with h1
    injection h1 with _ h1 _
    cases h1
   have hrow := h.rest.rows f hlt
   rw [hA] at hrow
   have HC := hid (Zm1 w hwh hrow hlg hfit y (by omega) z hz)
   have HT := hid (fun w' hr hs => h.turned (w' := w') hlt hA (Zt (z * 2 ^ (y % 8)) (y / 8) (m.files f).bytes) hr hs)
   have HOG := hid (h.rest.or f g hlt (by rw [hA]; rfl))
   rw [hk] at c1
   have hy1 : ¬ (8 * (k : Int) ≤ (y : Int)) := hx1
   have hy2 : ¬ ((y : Int) < 0) := hx0
   clear h hn hf hs hF hwh hA hbare hfit hrow hlg
   generalize G.loc f = lf at *
   go_enter Tryz.func31, Tryz.ntmps31
   go_wp2_with (fail)
   refine HC.out.mono ?_
   rintro e w' ⟨rfl, hr, hs⟩
   have HW := hid (And.intro (HT.out w' hr hs) hs)
   clear hr hs
   go_wp2_with (fail)
   go_ret
   exact ⟨rfl, _, _, HW.out.1, HW.out.2.wider fun k _ e => .inr (e ▸ HOG.out), fun k hk => .inl hk⟩
end
section
variable {B d K : Nat} {w0 w w' : World} {out : Nat → Prop} {m : Dk}
theorem Zrf (n : Nm) (x : Int) (z : Nat) (h : DkIn B w0 w d out m) (ok : DkOk K m) (hK : K ≤ 1000000000) (hn : n.length ≤ 1000000) (hx : -9223372036854775808 ≤ x ∧ x ≤ 9223372036854775807) (hz : z < 4294967296) {v : Bool} {m' : Dk} (h1 : m.flip n x z = (m', v)) :
 Calls Tryz.prog 31 #[.pointer (some ⟨d, 0, none⟩), .string ⟨n.toArray⟩, .int .i64 x, .int .u32 (z : Int)] w fun e w' => e = .returned (.bool v) ∧ DkIn B w0 w' d out m' ∧ Stays B out w w' :=
 h.to fun own G ha _ _ => by
  have := Zpe w n x z ha (ok.fit hK) (by unfold maxLen; omega) hx hz
  rw [h1] at this
  exact this
theorem DkOk.flip (h : DkOk K m) (n : Nm) (x : Int) (z : Nat) : DkOk K (m.flip n x z).1 := by
 unfold Dk.flip
 split
 ·exact h
 ·rename_i f hf
  split
  ·exact h
  ·refine ⟨h.cut, h.fail, h.made, h.pend, h.names, fun i hi => ?_⟩
   have h1 := h.bytes i hi
   show (if i = f then _ else _ : Fl).bytes.length ≤ K ∧ (if i = f then _ else _ : Fl).kept ≤ (if i = f then _ else _ : Fl).bytes.length
   split
   ·rename_i e
    subst e
    rw [Zt]
    exact h1
   ·exact h1
end
end Go.Proofs.YtlldcogkcjnejaaGreat
