/-
  Texts that the statements' proofs lean on, one behind the other.
-/
import Derived.Test.YtdkpbphgaenlnaaGreatLists
import Derived.Test.YtdkpbphgaenlnaaGreatSlices
import Derived.Laws.AppendOwn
import Derived.Maps.AppendAt
import Derived.OwnWalkIn
import Derived.Test.YtdkpbphgaenlnaaGreatMX
import Derived.Test.YtdkpbphgaenlnaaGreatDkList
import Derived.Test.YtdkpbphgaenlnaaGreatMC
import Derived.Test.YtdkpbphgaenlnaaGreatFlat
import Derived.Test.YtdkpbphgaenlnaaGreatMB
import Derived.Laws.IdiomStrings
import Derived.Test.YtdkpbphgaenlnaaGreatFactsTail
import Derived.Test.YtdkpbphgaenlnaaGreatWalkBits
import Derived.Test.YtdkpbphgaenlnaaGreatMP
/-
  Append of structs: at any size of element, s the call's own, x any slice.
-/
namespace Go.Proofs.YtdkpbphgaenlnaaGreat
open Go.RowKit
set_option linter.unusedVariables false
set_option linter.unusedSimpArgs false
theorem slice_ownP {w : World} {base : Nat} {e : TypeId} {size : Nat} {v : Value} {n : Nat} {xs : List Value} (h : w.ownsRow base e size v n xs) : ∃ A c, v = .slice A n c := by
  rcases h.2 with ⟨rfl, rfl⟩ | ⟨g, cap, _, rfl, _⟩
  · exact ⟨none, 0, rfl⟩
  · exact ⟨_, cap, rfl⟩
section
variable {F : Fence} {n : Nat} {P : Program} {w : World} {ops : Array Oper} {rest : List Oper} {o : Oper} {a : Act} {Q : Exit → Act → World → Prop}
/-- 'append(s, x...)', s the call's own: where its new value lies, too. -/
theorem listIn_append_at (hg : o.guard = none) (s x : Operand) (t : TypeId) (hop : o.op = Op.call { callee := Callee.builtin Builtin.append, args := #[s, x], argTypes := #[t, t] })
    (base : Nat) (e : TypeId) (i : TypeInfo) (z : Value) (size bytes : Nat) (h1 : P.underlying t = some (.slice e)) (h2 : P.info? e = some i) (h3 : i.zero = some z) (h4 : i.size = size) (h5 : i.bytes = bytes) (h6 : z.cells.size = size) (h7 : 0 < size)
    (v : Value) (k : Nat) (xs : List Value) (hs : a.eval s = v) (hown : w.ownsRow base e size v k xs) (ad : Addr) (m c : Nat) (news : List Value) (hx : a.eval x = .slice (some ad) m c) (hn : news.length = m * size)
    (hc : ∀ j u, news[j]? = some u → w.cell? (ad.add j) = some u) (h1c : ∀ u ∈ news, u.oneCell' = true) (b1 : k + m ≤ maxLen) (b2 : (k + m) * bytes ≤ 140737488355328) (b3 : base ≤ w.heap.size)
    (hK : ∀ A' c' w', w'.ownsRow base e size (.slice A' (k + m) c') (k + m) (xs ++ news) → w.grownBy w' v.ownBlock → ((Value.slice A' (k + m) c').ownBlock = v.ownBlock ∨ (Value.slice A' (k + m) c').ownBlock = some w.heap.size) → wpListIn F n P ops Q rest (a.put o.dst (.slice A' (k + m) c')) w') :
    wpListIn F n P ops Q (o :: rest) a w := by
  refine wpListIn_plain hg fun K hK' => ?_
  obtain ⟨v', w', hrun, r1, r2, _, r3⟩ := run_append_own_at (P := P) (w := w) base t o.type e i z size bytes h1 h2 h3 h4 h5 h6 h7 v k xs hown ad m c news hn hc h1c b1 b2 b3
  obtain ⟨A', c', rfl⟩ := slice_ownP r1
  unfold Oper.wpIn
  refine ⟨?_, ?_⟩
  · simp [Oper.about, hop, resolve, Target.leads, Sem.run_pure]
  · rw [Oper.semAt_plain F _ _ (by rw [hop]; intro c hc'; cases hc')]
    simp only [execOp, hop, resolve, invoke, builtin, Sem.run_bind, Sem.run_pure, Result.andThen_ok, List.map_toArray, List.map_cons, List.map_nil, hs, hx, hrun]
    exact hK' _ _ (hK A' c' w' r1 r2 r3)
/-- The same outside a fence; x may be nil. -/
theorem list_append_at (hg : o.guard = none) (s x : Operand) (t : TypeId) (hop : o.op = Op.call { callee := Callee.builtin Builtin.append, args := #[s, x], argTypes := #[t, t] })
    (base : Nat) (e : TypeId) (i : TypeInfo) (z : Value) (size bytes : Nat) (h1 : P.underlying t = some (.slice e)) (h2 : P.info? e = some i) (h3 : i.zero = some z) (h4 : i.size = size) (h5 : i.bytes = bytes) (h6 : z.cells.size = size) (h7 : 0 < size)
    {v : Value} {k : Nat} {xs : List Value} (hs : a.eval s = v) (hown : w.ownsRow base e size v k xs) {A : Option Addr} {m c : Nat} {B : Nat} {news : List Value} (hx : a.eval x = .slice A m c) (hr : Row w B A (size * m) news) (hbare : A = none → c = 0)
    (h1c : ∀ u ∈ news, u.oneCell' = true) (j : Nat) (hj : k + m = j) (b1 : j ≤ maxLen) (b2 : j * bytes ≤ 140737488355328) (b3 : base ≤ w.heap.size)
    (hK : ∀ A' c' w', w'.ownsRow base e size (.slice A' j c') j (xs ++ news) → w.grownBy w' v.ownBlock → ((Value.slice A' j c').ownBlock = v.ownBlock ∨ (Value.slice A' j c').ownBlock = some w.heap.size) → wpList P ops Q rest (a.put o.dst (.slice A' j c')) w') :
    wpList P ops Q (o :: rest) a w := by
  subst hj
  refine wpList_plain hg fun K hK' => ?_
  have key : ∃ v' w', (Builtin.append_ #[t, t] o.type #[v, .slice A m c]).run P w = .ok v' w' ∧ w'.ownsRow base e size v' (k + m) (xs ++ news) ∧ w.grownBy w' v.ownBlock ∧ (v'.ownBlock = v.ownBlock ∨ v'.ownBlock = some w.heap.size) := by
    rcases A with _ | ad
    · have hnil : news = [] := by
        rcases news with _ | ⟨u, us⟩
        · rfl
        · obtain ⟨ad, he, _⟩ := hr.spot 0 u rfl
          cases he
      subst hnil
      have hm : m = 0 := by
        have := hr.len
        simp only [List.length_nil] at this
        rcases Nat.eq_zero_or_pos m with h | h
        · exact h
        · have := Nat.mul_pos h7 h; omega
      have hc := hbare rfl
      subst hm hc
      exact ⟨v, w, run_append_owned_none (P := P) (w := w) base t o.type e i size h1 h2 v k xs hown, by simpa using hown, World.grownBy.refl w _, .inl rfl⟩
    · obtain ⟨v', w', hrun, r1, r2, _, r3⟩ := run_append_own_at (P := P) (w := w) base t o.type e i z size bytes h1 h2 h3 h4 h5 h6 h7 v k xs hown ad m c news (by rw [hr.len, Nat.mul_comm])
        (fun j u hu => by obtain ⟨ad', he, _, hc⟩ := hr.spot j u hu; injection he with he; subst he; exact hc) h1c b1 b2 b3
      exact ⟨v', w', hrun, r1, r2, r3⟩
  obtain ⟨v', w', hrun, r1, r2, r3⟩ := key
  obtain ⟨A', c', rfl⟩ := slice_ownP r1
  unfold Oper.wp execOp
  simp only [hop, resolve, invoke, builtin, Sem.run_bind, Sem.run_pure, Result.andThen_ok, List.map_toArray, List.map_cons, List.map_nil, hs, hx, hrun]
  exact hK' _ _ (hK A' c' w' r1 r2 r3)
end
end Go.Proofs.YtdkpbphgaenlnaaGreat

/-
  Texts that the statements' proofs lean on, one behind the other.
-/
/-
  The document's disk, plainly, as its calls do it; that it goes with the other one.
-/
namespace Go.Proofs.YtdkpbphgaenlnaaGreat
open Go.RowKit
set_option linter.unusedVariables false
set_option linter.unusedSimpArgs false

structure Rf where
  most : Int
  files : List Fl
  names : Dir
  kept : Dir
  pend : List Ch
  did : Int
  fail : Int
  cut : Int
  down : Bool
def Rf.new (most : Int) : Rf := ⟨min (max most 0) 67108864, [], [], [], [], 0, -1, -1, false⟩
/-- An entry put, as the answer does it. -/
def rput (e : Nm × Nat) : Dir → Dir
  | [] => [e]
  | y :: r => if bytesBefore y.1 e.1 then y :: rput e r else e :: Dir.del e.1 (y :: r)
def rdoes (c : Ch) (l : Dir) : Dir := match c with
  | .made n f => rput (n, f) l
  | .taken n => Dir.del n l
  | .moved n to => match Dir.find n l with
    | some f => rput (to, f) (Dir.del n l)
    | none => l
def Rf.sooner (m : Rf) : Rf := { m with cut := Go.Proofs.YtdkpbphgaenlnaaGreat.sooner m.cut, fail := Go.Proofs.YtdkpbphgaenlnaaGreat.sooner m.fail }
def Rf.thing (m : Rf) : Rf × Int :=
  if m.cut = 0 then ({ m.sooner with down := true, cut := -1 }, 82)
  else if m.fail = 0 then ({ m.sooner with fail := -1 }, 81)
  else ({ m.sooner with did := wrap64 (m.did + 1) }, 0)
def Rf.change (m : Rf) (c : Ch) : Rf := { m with names := rdoes c m.names, pend := m.pend ++ [c] }
def Rf.set (m : Rf) (k : Nat) (f : Fl) : Rf := { m with files := m.files.set k f }
def Rf.len (m : Rf) (f : Nat) : Nat := (m.files.getD f ⟨[], 0⟩).bytes.length
def Rf.used (m : Rf) : Nat := (m.names.map fun p => m.len p.2).sum
def Rf.create (m : Rf) (n : Nm) : Rf × Int :=
  if m.down then (m, 82)
  else if right n = false then (m, 1)
  else if (Dir.find n m.names).isSome then (m, 4)
  else if 4096 ≤ m.names.length then (m, 2)
  else if m.thing.2 = 0 then (({ m.thing.1 with files := m.files ++ [(⟨[], 0⟩ : Fl)] } : Rf).change (.made n m.files.length), 0) else m.thing
def Rf.append (m : Rf) (n : Nm) (b : List UInt8) : Rf × Int :=
  if m.down then (m, 82)
  else match Dir.find n m.names with
    | none => (m, 3)
    | some f => if m.most - m.used < b.length then (m, 5) else if m.thing.2 = 0 then (m.thing.1.set f ⟨(m.files.getD f ⟨[], 0⟩).bytes ++ b, (m.files.getD f ⟨[], 0⟩).kept⟩, 0) else m.thing
def Rf.sync (m : Rf) (n : Nm) : Rf × Int :=
  if m.down then (m, 82)
  else match Dir.find n m.names with
    | none => (m, 3)
    | some f => if m.thing.2 = 0 then (m.thing.1.set f ⟨(m.files.getD f ⟨[], 0⟩).bytes, (m.files.getD f ⟨[], 0⟩).bytes.length⟩, 0) else m.thing
def Rf.rename (m : Rf) (n to : Nm) : Rf × Int :=
  if m.down then (m, 82)
  else match Dir.find n m.names with
    | none => (m, 3)
    | some _ => if right to = false ∨ to = n then (m, 1) else if m.thing.2 = 0 then (m.thing.1.change (.moved n to), 0) else m.thing
def Rf.remove (m : Rf) (n : Nm) : Rf × Int :=
  if m.down then (m, 82)
  else match Dir.find n m.names with
    | none => (m, 3)
    | some _ => if m.thing.2 = 0 then (m.thing.1.change (.taken n), 0) else m.thing
def Rf.syncDir (m : Rf) : Rf × Int :=
  if m.down then (m, 82)
  else if m.thing.2 = 0 then ({ m.thing.1 with kept := m.names, pend := [] }, 0) else m.thing
def Rf.setFail (m : Rf) (x : Int) : Rf := { m with fail := if 0 ≤ x then x else m.fail }
def Rf.setCut (m : Rf) (x : Int) : Rf := { m with cut := if 0 ≤ x then x else m.cut }
def rredo (cs : List Ch) (l : Dir) : Dir := cs.foldl (fun l c => rdoes c l) l
def Rf.boot (m : Rf) (dirs : Int) (l : List Int) : Rf :=
  { m with files := m.files.mapIdx fun i f => f.lose (more l i), names := rredo (m.pend.take dirs.toNat) m.kept, kept := rredo (m.pend.take dirs.toNat) m.kept, pend := [], fail := -1, cut := -1, down := false }
def Rf.size (m : Rf) (n : Nm) : Int × Bool := match Dir.find n m.names with
  | some f => ((m.len f : Nat), true)
  | none => (0, false)
def Rf.read (m : Rf) (n : Nm) (x k : Int) : Option (List UInt8) × Int :=
  if m.down then (none, 82)
  else match Dir.find n m.names with
    | none => (none, 3)
    | some f => if x < 0 ∨ k < 0 ∨ (m.len f : Int) < x ∨ (m.len f : Int) - x < k then (none, 1)
      else (some (((m.files.getD f ⟨[], 0⟩).bytes.drop x.toNat).take k.toNat), 0)

/-! Names in order. -/
theorem bef_irrefl : ∀ a : Nm, bytesBefore a a = false
  | [] => rfl
  | a :: r => by
    have := bef_irrefl r
    simp [bytesBefore, this]
theorem bef_total : ∀ {a b : Nm}, bytesBefore a b = false → a ≠ b → bytesBefore b a = true
  | [], [], _, h => absurd rfl h
  | [], _ :: _, h, _ => by simp [bytesBefore] at h
  | _ :: _, [], _, _ => rfl
  | x :: r, y :: s, h, hne => by
    simp only [bytesBefore, Bool.or_eq_false_iff, decide_eq_false_iff_not, Bool.and_eq_false_iff, beq_eq_false_iff_ne] at h
    simp only [bytesBefore, Bool.or_eq_true, decide_eq_true_eq, Bool.and_eq_true, beq_iff_eq]
    obtain ⟨h1, h2⟩ := h
    by_cases hxy : x = y
    · subst hxy
      refine .inr ⟨rfl, bef_total (h2.resolve_left fun h => h rfl) fun e => hne (by rw [e])⟩
    · refine .inl ?_
      have h3 : ¬ x.toNat < y.toNat := h1
      have h4 : x.toNat ≠ y.toNat := fun e => hxy (UInt8.toNat_inj.1 e)
      show y.toNat < x.toNat
      omega
theorem bef_trans : ∀ {a b c : Nm}, bytesBefore a b = true → bytesBefore b c = true → bytesBefore a c = true
  | [], [], _, h, _ => by simp [bytesBefore] at h
  | [], _ :: _, [], _, h => by simp [bytesBefore] at h
  | [], _ :: _, _ :: _, _, _ => rfl
  | _ :: _, [], _, h, _ => by simp [bytesBefore] at h
  | _ :: _, _ :: _, [], _, h => by simp [bytesBefore] at h
  | x :: r, y :: s, z :: t, h, k => by
    simp only [bytesBefore, Bool.or_eq_true, decide_eq_true_eq, Bool.and_eq_true, beq_iff_eq] at h k ⊢
    rcases h with h | ⟨rfl, h⟩
    · rcases k with k | ⟨rfl, k⟩
      · left
        have h3 : x.toNat < y.toNat := h
        have h4 : y.toNat < z.toNat := k
        show x.toNat < z.toNat
        omega
      · exact .inl h
    · rcases k with k | ⟨rfl, k⟩
      · exact .inl k
      · exact .inr ⟨rfl, bef_trans h k⟩
def Sorted (l : Dir) : Prop := l.Pairwise fun x y => bytesBefore x.1 y.1 = true
theorem Sorted.del {l : Dir} (h : Sorted l) (n : Nm) : Sorted (Dir.del n l) := List.Pairwise.filter _ h
theorem ins_first {e : Nm × Nat} : ∀ {l : Dir}, (∀ y ∈ l, bytesBefore e.1 y.1 = true) → Dir.ins e l = e :: l
  | [], _ => rfl
  | y :: r, h => by
    unfold Dir.ins
    rw [if_pos (h y List.mem_cons_self)]
theorem del_none {n : Nm} {l : Dir} (h : ∀ y ∈ l, y.1 ≠ n) : Dir.del n l = l := by
  unfold Dir.del
  rw [List.filter_eq_self]
  intro y hy
  simp [h y hy]
theorem put_same (e : Nm × Nat) : ∀ {l : Dir}, Sorted l → rput e l = Dir.put e.1 e.2 l
  | [], _ => rfl
  | y :: r, h => by
    have hr : Sorted r := (List.pairwise_cons.1 h).2
    have ih := put_same e hr
    unfold rput
    by_cases hy : bytesBefore y.1 e.1 = true
    · rw [if_pos hy, ih]
      have hne : y.1 ≠ e.1 := fun e2 => by rw [e2, bef_irrefl] at hy; cases hy
      have hd : Dir.del e.1 (y :: r) = y :: Dir.del e.1 r := by
        unfold Dir.del
        rw [List.filter_cons, if_pos (by simp [hne])]
      unfold Dir.put
      rw [hd]
      show _ = (if bytesBefore e.1 y.1 then _ else _)
      rw [if_neg]
      intro h2
      have := bef_trans hy h2
      rw [bef_irrefl] at this
      cases this
    · rw [if_neg hy]
      unfold Dir.put
      refine (ins_first fun z hz => ?_).symm
      obtain ⟨hz1, hz2⟩ := mem_del.1 hz
      have hyz : y = z ∨ bytesBefore y.1 z.1 = true := by
        rcases List.mem_cons.1 hz1 with rfl | hz1
        · exact .inl rfl
        · exact .inr ((List.pairwise_cons.1 h).1 z hz1)
      rcases hyz with rfl | hyz
      · exact bef_total (by simpa using hy) hz2
      · by_cases hye : y.1 = e.1
        · rw [← hye]; exact hyz
        · exact bef_trans (bef_total (by simpa using hy) hye) hyz
theorem mem_ins {e y : Nm × Nat} : ∀ {l : Dir}, y ∈ Dir.ins e l → y = e ∨ y ∈ l
  | [], h => by
    rw [Dir.ins, List.mem_singleton] at h
    exact .inl h
  | z :: r, h => by
    unfold Dir.ins at h
    split at h
    · exact (List.mem_cons.1 h)
    · rcases List.mem_cons.1 h with h | h
      · exact .inr (by rw [h]; exact List.mem_cons_self)
      · rcases mem_ins h with h | h
        · exact .inl h
        · exact .inr (List.mem_cons_of_mem _ h)
theorem Sorted.ins {e : Nm × Nat} : ∀ {l : Dir}, Sorted l → (∀ y ∈ l, y.1 ≠ e.1) → Sorted (Dir.ins e l)
  | [], _, _ => by
    rw [Dir.ins]
    exact List.pairwise_singleton _ _
  | y :: r, h, hn => by
    obtain ⟨h1, h2⟩ := List.pairwise_cons.1 h
    unfold Dir.ins
    split
    · rename_i hb
      refine List.pairwise_cons.2 ⟨fun z hz => ?_, h⟩
      rcases List.mem_cons.1 hz with rfl | hz
      · exact hb
      · exact bef_trans hb (h1 z hz)
    · rename_i hb
      refine List.pairwise_cons.2 ⟨fun z hz => ?_, Sorted.ins h2 fun z hz => hn z (List.mem_cons_of_mem _ hz)⟩
      rcases mem_ins hz with rfl | hz
      · exact bef_total (by simpa using hb) fun e2 => hn y List.mem_cons_self e2.symm
      · exact h1 z hz
theorem Sorted.put {l : Dir} (h : Sorted l) (n : Nm) (f : Nat) : Sorted (Dir.put n f l) := (h.del n).ins fun y hy => (mem_del.1 hy).2
theorem Sorted.on {l : Dir} (h : Sorted l) (c : Ch) : Sorted (c.on l) := by
  cases c with
  | made n f => exact h.put n f
  | taken n => exact h.del n
  | moved n to =>
    show Sorted (match Dir.find n l with | some f => Dir.put to f (Dir.del n l) | none => l)
    cases Dir.find n l with
    | none => exact h
    | some f => exact (h.del n).put to f
theorem does_same {l : Dir} (h : Sorted l) (c : Ch) : rdoes c l = c.on l := by
  cases c with
  | made n f => exact put_same (n, f) h
  | taken n => rfl
  | moved n to =>
    show (match Dir.find n l with | some f => rput (to, f) (Dir.del n l) | none => l) = (match Dir.find n l with | some f => Dir.put to f (Dir.del n l) | none => l)
    cases Dir.find n l with
    | none => rfl
    | some f => exact put_same (to, f) (h.del n)
theorem redo_same : ∀ (cs : List Ch) {l : Dir}, Sorted l → rredo cs l = redo cs l ∧ Sorted (redo cs l)
  | [], _, h => ⟨rfl, h⟩
  | c :: cs, l, h => by
    show rredo cs (rdoes c l) = redo cs (c.on l) ∧ Sorted (redo cs (c.on l))
    rw [does_same h]
    exact redo_same cs (h.on c)
end Go.Proofs.YtdkpbphgaenlnaaGreat

/-
  The document's disk goes with the other one: what stands where, and how much there is.
-/
namespace Go.Proofs.YtdkpbphgaenlnaaGreat
open Go.RowKit
set_option linter.unusedVariables false
set_option linter.unusedSimpArgs false

def V (l : Dir) : List Nat := l.map (·.2)
def madeI (cs : List Ch) : List Nat := cs.filterMap fun c => match c with
  | .made _ f => some f
  | _ => none
theorem ins_perm (e : Nm × Nat) : ∀ l : Dir, (Dir.ins e l).Perm (e :: l)
  | [] => .refl _
  | y :: r => by
    unfold Dir.ins
    split
    · exact .refl _
    · exact ((ins_perm e r).cons y).trans (.swap e y r)
theorem V_put (n : Nm) (f : Nat) (l : Dir) : (V (Dir.put n f l)).Perm (f :: V (Dir.del n l)) := (ins_perm (n, f) (Dir.del n l)).map (fun p : Nm × Nat => p.2)
theorem V_del_sub (n : Nm) (l : Dir) : (V (Dir.del n l)).Sublist (V l) := List.Sublist.map _ List.filter_sublist
theorem V_mem {n : Nm} {f : Nat} {l : Dir} (h : (n, f) ∈ l) : f ∈ V l := List.mem_map.2 ⟨_, h, rfl⟩
theorem del_apart {n : Nm} {f : Nat} : ∀ {l : Dir}, (V l).Nodup → (n, f) ∈ l → f ∉ V (Dir.del n l)
  | y :: r, h, hm => by
    obtain ⟨h1, h2⟩ := List.nodup_cons.1 (show (y.2 :: V r).Nodup from h)
    intro hf
    rcases List.mem_cons.1 hm with rfl | hm
    · have : Dir.del n ((n, f) :: r) = Dir.del n r := by
        unfold Dir.del
        rw [List.filter_cons, if_neg (by simp)]
      rw [this] at hf
      exact h1 ((V_del_sub n r).subset hf)
    · by_cases hy : y.1 = n
      · have : Dir.del n (y :: r) = Dir.del n r := by
          unfold Dir.del
          rw [List.filter_cons, if_neg (by simp [hy])]
        rw [this] at hf
        exact del_apart h2 hm hf
      · have : Dir.del n (y :: r) = y :: Dir.del n r := by
          unfold Dir.del
          rw [List.filter_cons, if_pos (by simp [hy])]
        rw [this] at hf
        rcases List.mem_cons.1 (show f ∈ y.2 :: V (Dir.del n r) from hf) with e | hf
        · exact h1 (e ▸ V_mem hm)
        · exact del_apart h2 hm hf
theorem on_vals {c : Ch} {l : Dir} {R : List Nat} (h : (V l ++ (madeI [c] ++ R)).Nodup) : (V (c.on l) ++ R).Nodup ∧ ∀ i ∈ V (c.on l), i ∈ V l ++ madeI [c] := by
  cases c with
  | made n f =>
    have h : (V l ++ (f :: R)).Nodup := h
    have hp : (V l ++ (f :: R)).Perm (f :: (V l ++ R)) := List.perm_middle
    have h2 := hp.nodup_iff.1 h
    obtain ⟨h3, h4⟩ := List.nodup_cons.1 h2
    have hd : (V (Dir.del n l) ++ R).Nodup := h4.sublist ((V_del_sub n l).append_right R)
    refine ⟨?_, fun i hi => ?_⟩
    · refine (((V_put n f l).append_right R).nodup_iff).2 (List.nodup_cons.2 ⟨fun hm => h3 ?_, hd⟩)
      exact ((V_del_sub n l).append_right R).subset hm
    · rcases List.mem_cons.1 ((V_put n f l).mem_iff.1 hi) with rfl | hi
      · exact List.mem_append_right _ (List.mem_singleton.2 rfl)
      · exact List.mem_append_left _ ((V_del_sub n l).subset hi)
  | taken n =>
    have h : (V l ++ R).Nodup := h
    exact ⟨h.sublist ((V_del_sub n l).append_right R), fun i hi => List.mem_append_left _ ((V_del_sub n l).subset hi)⟩
  | moved n to =>
    have h : (V l ++ R).Nodup := h
    show (V (match Dir.find n l with | some f => Dir.put to f (Dir.del n l) | none => l) ++ R).Nodup ∧ ∀ i ∈ V (match Dir.find n l with | some f => Dir.put to f (Dir.del n l) | none => l), _
    cases hf : Dir.find n l with
    | none => exact ⟨h, fun i hi => List.mem_append_left _ hi⟩
    | some f =>
      have hm := find_mem hf
      have hnd : (V l).Nodup := (List.nodup_append.1 h).1
      have hna := del_apart hnd hm
      have hsub := (V_del_sub to (Dir.del n l)).trans (V_del_sub n l)
      refine ⟨?_, fun i hi => ?_⟩
      · refine (((V_put to f (Dir.del n l)).append_right R).nodup_iff).2 (List.nodup_cons.2 ⟨fun hx => ?_, h.sublist (hsub.append_right R)⟩)
        rcases List.mem_append.1 hx with hx | hx
        · exact hna ((V_del_sub to (Dir.del n l)).subset hx)
        · exact (List.nodup_append.1 h).2.2 f (V_mem hm) f hx rfl
      · rcases List.mem_cons.1 ((V_put to f (Dir.del n l)).mem_iff.1 hi) with rfl | hi
        · exact List.mem_append_left _ (V_mem hm)
        · exact List.mem_append_left _ (hsub.subset hi)
theorem madeI_cons (c : Ch) (cs : List Ch) : madeI (c :: cs) = madeI [c] ++ madeI cs := by
  unfold madeI
  cases c <;> simp
theorem madeI_append (a b : List Ch) : madeI (a ++ b) = madeI a ++ madeI b := by unfold madeI; rw [List.filterMap_append]
theorem redo_vals : ∀ (cs : List Ch) {l : Dir} {R : List Nat}, (V l ++ (madeI cs ++ R)).Nodup → (V (redo cs l) ++ R).Nodup ∧ ∀ i ∈ V (redo cs l), i ∈ V l ++ madeI cs
  | [], l, R, h => ⟨h, fun i hi => List.mem_append_left _ hi⟩
  | c :: cs, l, R, h => by
    rw [madeI_cons, List.append_assoc] at h
    obtain ⟨h1, h2⟩ := on_vals h
    obtain ⟨h3, h4⟩ := redo_vals cs h1
    refine ⟨h3, fun i hi => ?_⟩
    rw [madeI_cons]
    rcases List.mem_append.1 (h4 i hi) with hi | hi
    · rcases List.mem_append.1 (h2 i hi) with hi | hi
      · exact List.mem_append_left _ hi
      · exact List.mem_append_right _ (List.mem_append_left _ hi)
    · exact List.mem_append_right _ (List.mem_append_right _ hi)

/-! How much there is. -/
def S (ln : Nat → Nat) (l : Dir) : Nat := (l.map fun p => ln p.2).sum
theorem S_perm {ln : Nat → Nat} {l l' : Dir} (h : l.Perm l') : S ln l = S ln l' := (h.map fun p : Nm × Nat => ln p.2).sum_nat
theorem S_put (ln : Nat → Nat) (n : Nm) (f : Nat) (l : Dir) : S ln (Dir.put n f l) = ln f + S ln (Dir.del n l) := S_perm (ins_perm (n, f) (Dir.del n l))
theorem S_del {ln : Nat → Nat} {n : Nm} {f : Nat} : ∀ {l : Dir}, Sorted l → Dir.find n l = some f → S ln l = ln f + S ln (Dir.del n l)
  | y :: r, h, hf => by
    obtain ⟨h1, h2⟩ := List.pairwise_cons.1 h
    by_cases hy : y.1 = n
    · have hr : ∀ z ∈ r, z.1 ≠ n := fun z hz e => by
        have := h1 z hz
        rw [e, hy, bef_irrefl] at this
        cases this
      have hd : Dir.del n (y :: r) = r := by
        have := del_none hr
        unfold Dir.del at this ⊢
        rw [List.filter_cons, if_neg (by simp [hy])]
        exact this
      have hyf : y.2 = f := by
        unfold Dir.find at hf
        rw [List.find?_cons, show (y.1 == n) = true by simpa using hy] at hf
        simpa using hf
      rw [hd, ← hyf]
      rfl
    · have hd : Dir.del n (y :: r) = y :: Dir.del n r := by
        unfold Dir.del
        rw [List.filter_cons, if_pos (by simp [hy])]
      have hf' : Dir.find n r = some f := by
        unfold Dir.find at hf ⊢
        rw [List.find?_cons, show (y.1 == n) = false by simpa using hy] at hf
        exact hf
      have ih := S_del (ln := ln) h2 hf'
      rw [hd]
      show ln y.2 + S ln r = ln f + (ln y.2 + S ln (Dir.del n r))
      omega
theorem find_none_ne {n : Nm} {l : Dir} (h : Dir.find n l = none) : ∀ y ∈ l, y.1 ≠ n := fun y hy e => by
  unfold Dir.find at h
  rw [Option.map_eq_none_iff, List.find?_eq_none] at h
  exact h y hy (by simpa using e)
theorem S_none {ln : Nat → Nat} {n : Nm} {l : Dir} (h : Dir.find n l = none) : S ln (Dir.del n l) = S ln l := by rw [del_none (find_none_ne h)]
theorem S_more {ln ln' : Nat → Nat} {f b : Nat} (hf : ln' f = ln f + b) (ho : ∀ i, i ≠ f → ln' i = ln i) : ∀ {l : Dir}, (V l).Nodup → S ln' l = S ln l + (if f ∈ V l then b else 0)
  | [], _ => by simp [S, V]
  | y :: r, h => by
    obtain ⟨h1, h2⟩ := List.nodup_cons.1 (show (y.2 :: V r).Nodup from h)
    have ih := S_more hf ho h2
    have hv : V (y :: r) = y.2 :: V r := rfl
    show ln' y.2 + S ln' r = ln y.2 + S ln r + _
    by_cases hy : y.2 = f
    · have hn : f ∉ V r := hy ▸ h1
      rw [if_neg hn] at ih
      rw [if_pos (by rw [hv, hy]; exact List.mem_cons_self), hy, hf, ih]
      omega
    · rw [ho _ hy, ih]
      have : (f ∈ V (y :: r)) ↔ f ∈ V r := by
        rw [hv, List.mem_cons]
        exact ⟨fun h => h.resolve_left fun e => hy e.symm, .inr⟩
      by_cases hm : f ∈ V r
      · rw [if_pos hm, if_pos (this.2 hm)]; omega
      · rw [if_neg hm, if_neg (fun h => hm (this.1 h))]; omega
theorem S_same {ln ln' : Nat → Nat} : ∀ {l : Dir}, (∀ i ∈ V l, ln' i = ln i) → S ln' l = S ln l
  | [], _ => rfl
  | y :: r, h => by
    show ln' y.2 + S ln' r = ln y.2 + S ln r
    rw [h y.2 (List.mem_cons_self), S_same fun i hi => h i (List.mem_cons_of_mem _ hi)]
theorem S_le {ln : Nat → Nat} {K : Nat} : ∀ {l : Dir}, (∀ i ∈ V l, ln i ≤ K) → S ln l ≤ l.length * K
  | [], _ => by simp [S]
  | y :: r, h => by
    have ih := S_le (l := r) fun i hi => h i (List.mem_cons_of_mem _ hi)
    have := h y.2 List.mem_cons_self
    show ln y.2 + S ln r ≤ (r.length + 1) * K
    rw [Nat.add_mul]
    omega

/-- Both go together. -/
structure Gl (m : Dk) (x : Rf) : Prop where
  most : x.most = m.most
  len : x.files.length = m.made
  names : x.names = m.names
  kept : x.kept = m.kept
  pend : x.pend = m.pend
  did : x.did = m.done
  fail : x.fail = m.fail
  cut : x.cut = m.cut
  down : x.down = m.down
  redo : m.names = redo m.pend m.kept
  srt : Sorted m.kept
  uniq : (V m.kept ++ madeI m.pend).Nodup
  lt : ∀ i ∈ V m.kept ++ madeI m.pend, i < m.made
  same : ∀ i ∈ V m.kept ++ madeI m.pend, x.files.getD i ⟨[], 0⟩ = m.files i
  used : m.used = (S (fun i => (m.files i).bytes.length) m.names : Nat)
  top : m.most ≤ 67108864
section
variable {m : Dk} {x : Rf} {K : Nat}
theorem Gl.new (y : Int) : Gl (Dk.new y) (Rf.new y) :=
  ⟨rfl, rfl, rfl, rfl, rfl, rfl, rfl, rfl, rfl, rfl, List.Pairwise.nil, List.nodup_nil, fun i hi => (by cases hi), fun i hi => (by cases hi), rfl, by show min (max y 0) 67108864 ≤ 67108864; omega⟩
theorem Gl.srtN (h : Gl m x) : Sorted m.names := by rw [h.redo]; exact (redo_same _ h.srt).2
theorem Gl.valN (h : Gl m x) : (V m.names).Nodup ∧ ∀ i ∈ V m.names, i ∈ V m.kept ++ madeI m.pend := by
  rw [h.redo]
  obtain ⟨h1, h2⟩ := redo_vals m.pend (l := m.kept) (R := []) (by rw [List.append_nil]; exact h.uniq)
  rw [List.append_nil] at h1
  exact ⟨h1, h2⟩
theorem Gl.file (h : Gl m x) {n : Nm} {f : Nat} (hf : Dir.find n m.names = some f) : x.files.getD f ⟨[], 0⟩ = m.files f ∧ f < m.made :=
  ⟨h.same f (h.valN.2 f (V_mem (find_mem hf))), h.lt f (h.valN.2 f (V_mem (find_mem hf)))⟩
theorem Gl.usedR (h : Gl m x) : m.used = (x.used : Nat) := by
  rw [h.used]
  unfold Rf.used Rf.len
  rw [h.names]
  congr 1
  exact (S_same (ln := fun i => (m.files i).bytes.length) (ln' := fun i => (x.files.getD i ⟨[], 0⟩).bytes.length) fun i hi => by rw [h.same i (h.valN.2 i hi)]).symm
theorem Gl.small (h : Gl m x) (ok : DkOk K m) (hK : K ≤ 100000) : (0 : Int) ≤ m.used ∧ m.used ≤ 10000000000 := by
  rw [h.used]
  have h1 := S_le (ln := fun i => (m.files i).bytes.length) (K := K) (l := m.names) fun i hi => (ok.bytes i (h.lt i (h.valN.2 i hi))).1
  have h2 := ok.names
  have h3 : m.names.length * K ≤ 100000 * 100000 := Nat.mul_le_mul (by omega) hK
  omega
/-- Where only numbers have turned. -/
theorem Gl.nums (h : Gl m x) {m' : Dk} {x' : Rf} (a1 : m'.most = m.most) (a2 : m'.made = m.made) (a3 : m'.names = m.names) (a4 : m'.kept = m.kept) (a5 : m'.pend = m.pend) (a6 : m'.files = m.files) (a7 : m'.used = m.used)
    (b1 : x'.most = x.most) (b2 : x'.files = x.files) (b3 : x'.names = x.names) (b4 : x'.kept = x.kept) (b5 : x'.pend = x.pend) (c1 : x'.did = m'.done) (c2 : x'.fail = m'.fail) (c3 : x'.cut = m'.cut) (c4 : x'.down = m'.down) : Gl m' x' :=
  ⟨by rw [b1, a1, h.most], by rw [b2, a2, h.len], by rw [b3, a3, h.names], by rw [b4, a4, h.kept], by rw [b5, a5, h.pend], c1, c2, c3, c4, by rw [a3, a4, a5]; exact h.redo, by rw [a4]; exact h.srt, by rw [a4, a5]; exact h.uniq,
    by rw [a4, a5, a2]; exact h.lt, by rw [a4, a5, b2, a6]; exact h.same, by rw [a7, a6, a3]; exact h.used, by rw [a1]; exact h.top⟩
/-- Names have changed. -/
theorem Gl.change (h : Gl m x) {c : Ch} {u : Int} (hc : ∀ f ∈ madeI [c], f ∉ V m.kept ++ madeI m.pend ∧ f < m.made ∧ x.files.getD f ⟨[], 0⟩ = m.files f) (hu : u = (S (fun i => (m.files i).bytes.length) (c.on m.names) : Nat)) :
    Gl { m with names := c.on m.names, pend := m.pend ++ [c], used := u } (x.change c) := by
  have hm : madeI (m.pend ++ [c]) = madeI m.pend ++ madeI [c] := madeI_append _ _
  refine ⟨h.most, h.len, ?_, h.kept, ?_, h.did, h.fail, h.cut, h.down, ?_, h.srt, ?_, ?_, ?_, hu, h.top⟩
  · show rdoes c x.names = c.on m.names
    rw [h.names, does_same h.srtN]
  · show x.pend ++ [c] = m.pend ++ [c]
    rw [h.pend]
  · show c.on m.names = Go.Proofs.YtdkpbphgaenlnaaGreat.redo (m.pend ++ [c]) m.kept
    rw [h.redo]
    unfold Go.Proofs.YtdkpbphgaenlnaaGreat.redo
    rw [List.foldl_append]
    rfl
  · show (V m.kept ++ madeI (m.pend ++ [c])).Nodup
    rw [hm, ← List.append_assoc]
    refine List.nodup_append.2 ⟨h.uniq, ?_, fun a ha b hb e => (hc b hb).1 (e ▸ ha)⟩
    cases c <;> simp [madeI]
  · show ∀ i ∈ V m.kept ++ madeI (m.pend ++ [c]), i < m.made
    rw [hm, ← List.append_assoc]
    intro i hi
    rcases List.mem_append.1 hi with hi | hi
    · exact h.lt i hi
    · exact (hc i hi).2.1
  · show ∀ i ∈ V m.kept ++ madeI (m.pend ++ [c]), x.files.getD i ⟨[], 0⟩ = m.files i
    rw [hm, ← List.append_assoc]
    intro i hi
    rcases List.mem_append.1 hi with hi | hi
    · exact h.same i hi
    · exact (hc i hi).2.2
/-- A file has turned. -/
theorem Gl.setF (h : Gl m x) {f : Nat} {v : Fl} {u : Int} (hf : f < m.made) (hu : u = (S (fun i => ((m.setFile f v).files i).bytes.length) m.names : Nat)) : Gl { m.setFile f v with used := u } (x.set f v) := by
  have hl : f < x.files.length := by rw [h.len]; exact hf
  refine ⟨h.most, by show (x.files.set f v).length = m.made; rw [List.length_set, h.len], h.names, h.kept, h.pend, h.did, h.fail, h.cut, h.down, h.redo, h.srt, h.uniq, h.lt, fun i hi => ?_, hu, h.top⟩
  show (x.files.set f v).getD i ⟨[], 0⟩ = if i = f then v else m.files i
  rw [List.getD_eq_getElem?_getD, List.getElem?_set]
  by_cases e : f = i
  · subst e
    rw [if_pos rfl, if_pos hl, if_pos rfl]
    rfl
  · rw [if_neg e, if_neg (fun e2 => e e2.symm), ← List.getD_eq_getElem?_getD]
    exact h.same i hi
theorem Gl.soon (h : Gl m x) : Gl m.sooner { x.sooner with did := x.did } := h.nums rfl rfl rfl rfl rfl rfl rfl rfl rfl rfl rfl rfl h.did (by show sooner x.fail = sooner m.fail; rw [h.fail]) (by show sooner x.cut = sooner m.cut; rw [h.cut]) h.down
/-- A thing: what is done, if it is. -/
theorem Gl.thing (h : Gl m x) (hd : m.down = false) (does : Dk → Dk) (X : Rf) (hx : m.cut ≠ 0 → m.fail ≠ 0 → x.thing.1 = { x.sooner with did := wrap64 (x.did + 1) } → Gl (does m.sooner).bump X) :
    (if x.thing.2 = 0 then (X, 0) else x.thing).2 = (m.thing does).2 ∧ Gl (m.thing does).1 (if x.thing.2 = 0 then (X, (0 : Int)) else x.thing).1 := by
  by_cases hc : m.cut = 0
  · have e : x.thing = ({ x.sooner with down := true, cut := -1 }, 82) := by unfold Rf.thing; rw [if_pos (by rw [h.cut]; exact hc)]
    rw [thing_cut hd hc, e]
    exact ⟨rfl, h.soon.nums rfl rfl rfl rfl rfl rfl rfl rfl rfl rfl rfl rfl h.did (by show sooner x.fail = sooner m.fail; rw [h.fail]) rfl rfl⟩
  · by_cases hf : m.fail = 0
    · have e : x.thing = ({ x.sooner with fail := -1 }, 81) := by unfold Rf.thing; rw [if_neg (by rw [h.cut]; exact hc), if_pos (by rw [h.fail]; exact hf)]
      rw [thing_io hd hc hf, e]
      exact ⟨rfl, h.soon.nums rfl rfl rfl rfl rfl rfl rfl rfl rfl rfl rfl rfl h.did rfl (by show sooner x.cut = sooner m.cut; rw [h.cut]) h.down⟩
    · have e : x.thing = ({ x.sooner with did := wrap64 (x.did + 1) }, 0) := by unfold Rf.thing; rw [if_neg (by rw [h.cut]; exact hc), if_neg (by rw [h.fail]; exact hf)]
      have hx' := hx hc hf (by rw [e])
      rw [thing_ok hd hc hf, e]
      exact ⟨rfl, hx'⟩
theorem Gl.setFail (h : Gl m x) (y : Int) : Gl (m.setFail y) (x.setFail y) := h.nums rfl rfl rfl rfl rfl rfl rfl rfl rfl rfl rfl rfl h.did (by show (if 0 ≤ y then y else x.fail) = if 0 ≤ y then y else m.fail; rw [h.fail]) h.cut h.down
theorem Gl.setCut (h : Gl m x) (y : Int) : Gl (m.setCut y) (x.setCut y) := h.nums rfl rfl rfl rfl rfl rfl rfl rfl rfl rfl rfl rfl h.did h.fail (by show (if 0 ≤ y then y else x.cut) = if 0 ≤ y then y else m.cut; rw [h.cut]) h.down
/-- What is told of both. -/
theorem Gl.size (h : Gl m x) (n : Nm) : x.size n = m.size n := by
  unfold Rf.size Dk.size
  rw [h.names]
  cases hf : Dir.find n m.names with
  | none => rfl
  | some f =>
    show (((x.len f : Nat) : Int), true) = _
    unfold Rf.len
    rw [(h.file hf).1]
theorem Gl.read (h : Gl m x) (n : Nm) (a b : Int) : x.read n a b = m.read n a b := by
  unfold Rf.read Dk.read
  rw [h.names, h.down]
  cases hf : Dir.find n m.names with
  | none => rfl
  | some f =>
    dsimp only
    unfold Rf.len
    rw [(h.file hf).1]
end
end Go.Proofs.YtdkpbphgaenlnaaGreat

/-
  Each call keeps both together, and answers alike.
-/
namespace Go.Proofs.YtdkpbphgaenlnaaGreat
open Go.RowKit
set_option linter.unusedVariables false
set_option linter.unusedSimpArgs false
section
variable {m : Dk} {x : Rf} {K : Nat}
theorem S_fun {ln ln' : Nat → Nat} {l : Dir} (h : ∀ i ∈ V l, ln' i = ln i) : S ln' l = S ln l := S_same h
theorem Gl.made (h : Gl m x) : Gl { m with files := fun j => if j = m.made then ⟨[], 0⟩ else m.files j, made := m.made + 1 } { x with files := x.files ++ [⟨[], 0⟩] } := by
  refine ⟨h.most, ?_, h.names, h.kept, h.pend, h.did, h.fail, h.cut, h.down, h.redo, h.srt, h.uniq, fun i hi => Nat.lt_succ_of_lt (h.lt i hi), fun i hi => ?_, ?_, h.top⟩
  · show (x.files ++ [(⟨[], 0⟩ : Fl)]).length = m.made + 1
    rw [List.length_append, h.len]
    rfl
  · show (x.files ++ [(⟨[], 0⟩ : Fl)]).getD i ⟨[], 0⟩ = if i = m.made then ⟨[], 0⟩ else m.files i
    have hi' := h.lt i hi
    rw [if_neg (by omega), List.getD_eq_getElem?_getD, List.getElem?_append_left (by rw [h.len]; exact hi'), ← List.getD_eq_getElem?_getD]
    exact h.same i hi
  · show m.used = (S (fun i => (if i = m.made then (⟨[], 0⟩ : Fl) else m.files i).bytes.length) m.names : Nat)
    rw [S_fun (ln := fun i => (m.files i).bytes.length) (ln' := fun i => (if i = m.made then (⟨[], 0⟩ : Fl) else m.files i).bytes.length) (l := m.names) fun i hi => by
      have := h.lt i (h.valN.2 i hi)
      show (if i = m.made then _ else _ : Fl).bytes.length = _
      rw [if_neg (by omega)]]
    exact h.used
theorem Gl.create (h : Gl m x) (n : Nm) : (x.create n).2 = (m.create n).2 ∧ Gl (m.create n).1 (x.create n).1 := by
  unfold Rf.create Dk.create
  rw [h.down, h.names]
  cases hd : m.down with
  | true => exact ⟨rfl, h⟩
  | false =>
    by_cases hr : right n = false
    · simp only [Bool.false_eq_true, if_false, if_pos hr]
      exact ⟨trivial, h⟩
    · simp only [Bool.false_eq_true, if_false, if_neg hr]
      cases hf : Dir.find n m.names with
      | some f => exact ⟨rfl, h⟩
      | none =>
        by_cases hl : 4096 ≤ m.names.length
        · simp only [Option.isSome, Bool.false_eq_true, if_false, if_pos hl]
          exact ⟨trivial, h⟩
        · simp only [Option.isSome, Bool.false_eq_true, if_false, if_neg hl]
          refine h.thing hd (Dk.doCreate n) _ fun hc hfl ex => ?_
          rw [ex]
          have h1 := h.soon.made
          have h2 := h1.change (c := .made n m.made) (u := m.used) (fun f hf => by
            rw [List.mem_singleton.1 (show f ∈ [m.made] from hf)]
            refine ⟨fun hm => absurd (h.lt _ hm) (Nat.lt_irrefl _), Nat.lt_succ_self _, ?_⟩
            show (x.files ++ [(⟨[], 0⟩ : Fl)]).getD m.made ⟨[], 0⟩ = if m.made = m.made then ⟨[], 0⟩ else _
            rw [if_pos rfl, List.getD_eq_getElem?_getD, List.getElem?_append_right (by rw [h.len]; exact Nat.le_refl _), h.len, Nat.sub_self]
            rfl) (by
            have hu := h1.used
            show m.used = (S (fun i => (if i = m.made then (⟨[], 0⟩ : Fl) else m.files i).bytes.length) (Dir.put n m.made m.names) : Nat)
            rw [S_put, S_none hf, if_pos rfl]
            have hu : m.used = (S (fun i => (if i = m.made then (⟨[], 0⟩ : Fl) else m.files i).bytes.length) m.names : Nat) := hu
            rw [hu]
            simp)
          rw [h.len]
          exact h2.nums rfl rfl rfl rfl rfl rfl rfl rfl rfl rfl rfl rfl (by show wrap64 (x.did + 1) = wrap64 (m.done + 1); rw [h.did]) (by show sooner x.fail = sooner m.fail; rw [h.fail]) (by show sooner x.cut = sooner m.cut; rw [h.cut]) h.down
theorem Gl.append (h : Gl m x) (ok : DkOk K m) (hK : K ≤ 100000) (n : Nm) (b : List UInt8) (hb : b.length ≤ 1000000000) : (x.append n b).2 = (m.append n b).2 ∧ Gl (m.append n b).1 (x.append n b).1 := by
  have hs := h.small ok hK
  unfold Rf.append Dk.append
  rw [h.down, h.names, h.most, ← h.usedR, IntWalk.wrap64_in _ (by omega)]
  cases hd : m.down with
  | true => exact ⟨rfl, h⟩
  | false =>
    simp only [Bool.false_eq_true, if_false]
    cases hf : Dir.find n m.names with
    | none => exact ⟨rfl, h⟩
    | some f =>
      dsimp only
      by_cases hx : m.most < m.used + b.length
      · rw [if_pos (show m.most - m.used < b.length by omega), if_pos hx]
        exact ⟨rfl, h⟩
      · rw [if_neg (show ¬ m.most - m.used < b.length by omega), if_neg hx]
        refine h.thing hd (Dk.doAppend f b) _ fun hc hfl ex => ?_
        rw [ex, (h.file hf).1]
        have h1 := h.soon.setF (f := f) (v := ⟨(m.files f).bytes ++ b, (m.files f).kept⟩) (u := wrap64 (m.used + b.length)) (h.file hf).2 (by
          rw [IntWalk.wrap64_in _ (by omega), h.used]
          have := S_more (ln := fun i => (m.files i).bytes.length) (ln' := fun i => (((m.sooner.setFile f ⟨(m.files f).bytes ++ b, (m.files f).kept⟩).files i).bytes.length)) (f := f) (b := b.length) (by
            show (if f = f then _ else _ : Fl).bytes.length = _
            rw [if_pos rfl]
            exact List.length_append) (fun i hi => by
            show (if i = f then _ else _ : Fl).bytes.length = _
            rw [if_neg hi]
            rfl) h.valN.1
          rw [if_pos (V_mem (find_mem hf))] at this
          show _ = ((S _ m.names : Nat) : Int)
          rw [this]
          simp)
        exact h1.nums rfl rfl rfl rfl rfl rfl rfl rfl rfl rfl rfl rfl (by show wrap64 (x.did + 1) = wrap64 (m.done + 1); rw [h.did]) (by show sooner x.fail = sooner m.fail; rw [h.fail]) (by show sooner x.cut = sooner m.cut; rw [h.cut]) h.down
theorem Gl.sync (h : Gl m x) (n : Nm) : (x.sync n).2 = (m.sync n).2 ∧ Gl (m.sync n).1 (x.sync n).1 := by
  unfold Rf.sync Dk.sync
  rw [h.down, h.names]
  cases hd : m.down with
  | true => exact ⟨rfl, h⟩
  | false =>
    simp only [Bool.false_eq_true, if_false]
    cases hf : Dir.find n m.names with
    | none => exact ⟨rfl, h⟩
    | some f =>
      dsimp only
      refine h.thing hd (Dk.doSync f) _ fun hc hfl ex => ?_
      rw [ex, (h.file hf).1]
      have h1 := h.soon.setF (f := f) (v := ⟨(m.files f).bytes, (m.files f).bytes.length⟩) (u := m.used) (h.file hf).2 (by
        show m.used = ((S _ m.names : Nat) : Int)
        rw [S_fun (l := m.names) (ln := fun i => (m.files i).bytes.length) (ln' := fun i => (((m.sooner.setFile f ⟨(m.files f).bytes, (m.files f).bytes.length⟩).files i).bytes.length)) fun i hi => by
          show (if i = f then _ else _ : Fl).bytes.length = _
          split
          · rename_i e; rw [e]
          · rfl]
        exact h.used)
      exact h1.nums rfl rfl rfl rfl rfl rfl rfl rfl rfl rfl rfl rfl (by show wrap64 (x.did + 1) = wrap64 (m.done + 1); rw [h.did]) (by show sooner x.fail = sooner m.fail; rw [h.fail]) (by show sooner x.cut = sooner m.cut; rw [h.cut]) h.down
theorem Gl.rename (h : Gl m x) (ok : DkOk K m) (hK : K ≤ 100000) (n to : Nm) : (x.rename n to).2 = (m.rename n to).2 ∧ Gl (m.rename n to).1 (x.rename n to).1 := by
  have hs := h.small ok hK
  unfold Rf.rename Dk.rename
  rw [h.down, h.names]
  cases hd : m.down with
  | true => exact ⟨rfl, h⟩
  | false =>
    simp only [Bool.false_eq_true, if_false]
    cases hf : Dir.find n m.names with
    | none => exact ⟨rfl, h⟩
    | some f =>
      dsimp only
      by_cases hr : right to = false ∨ to = n
      · rw [if_pos hr, if_pos hr]
        exact ⟨rfl, h⟩
      · rw [if_neg hr, if_neg hr]
        refine h.thing hd (Dk.doRename n to) _ fun hc hfl ex => ?_
        rw [ex]
        have hne : to ≠ n := fun e => hr (.inr e)
        have hon : (Ch.moved n to).on m.names = Dir.put to f (Dir.del n m.names) := by
          show (match Dir.find n m.names with | some f => Dir.put to f (Dir.del n m.names) | none => m.names) = _
          rw [hf]
        have h1 := h.soon.change (c := .moved n to) (u := wrap64 (m.used - (m.size to).1)) (fun g hg => by cases hg) (by
          show wrap64 (m.used - (m.size to).1) = (S (fun i => (m.files i).bytes.length) ((Ch.moved n to).on m.names) : Nat)
          rw [hon, S_put]
          have h2 := S_del (ln := fun i => (m.files i).bytes.length) h.srtN hf
          have h3 := h.used
          unfold Dk.size
          cases ht : Dir.find to m.names with
          | none =>
            have h4 : S (fun i => (m.files i).bytes.length) (Dir.del to (Dir.del n m.names)) = S (fun i => (m.files i).bytes.length) (Dir.del n m.names) := S_none (by rw [find_del_other hne]; exact ht)
            dsimp only at *
            rw [IntWalk.wrap64_in _ (by omega)]
            omega
          | some g =>
            have h4 := S_del (ln := fun i => (m.files i).bytes.length) (h.srtN.del n) (show Dir.find to (Dir.del n m.names) = some g by rw [find_del_other hne]; exact ht)
            dsimp only at *
            rw [IntWalk.wrap64_in _ (by omega)]
            omega)
        exact h1.nums rfl rfl rfl rfl rfl rfl rfl rfl rfl rfl rfl rfl (by show wrap64 (x.did + 1) = wrap64 (m.done + 1); rw [h.did]) (by show sooner x.fail = sooner m.fail; rw [h.fail]) (by show sooner x.cut = sooner m.cut; rw [h.cut]) h.down
theorem Gl.remove (h : Gl m x) (ok : DkOk K m) (hK : K ≤ 100000) (n : Nm) : (x.remove n).2 = (m.remove n).2 ∧ Gl (m.remove n).1 (x.remove n).1 := by
  have hs := h.small ok hK
  unfold Rf.remove Dk.remove
  rw [h.down, h.names]
  cases hd : m.down with
  | true => exact ⟨rfl, h⟩
  | false =>
    simp only [Bool.false_eq_true, if_false]
    cases hf : Dir.find n m.names with
    | none => exact ⟨rfl, h⟩
    | some f =>
      dsimp only
      refine h.thing hd (Dk.doRemove f n) _ fun hc hfl ex => ?_
      rw [ex]
      have h1 := h.soon.change (c := .taken n) (u := wrap64 (m.used - (m.files f).bytes.length)) (fun g hg => by cases hg) (by
        show wrap64 (m.used - (m.files f).bytes.length) = (S (fun i => (m.files i).bytes.length) (Dir.del n m.names) : Nat)
        have h2 := S_del (ln := fun i => (m.files i).bytes.length) h.srtN hf
        have h3 := h.used
        rw [IntWalk.wrap64_in _ (by omega)]
        omega)
      exact h1.nums rfl rfl rfl rfl rfl rfl rfl rfl rfl rfl rfl rfl (by show wrap64 (x.did + 1) = wrap64 (m.done + 1); rw [h.did]) (by show sooner x.fail = sooner m.fail; rw [h.fail]) (by show sooner x.cut = sooner m.cut; rw [h.cut]) h.down
theorem Gl.syncDir (h : Gl m x) : x.syncDir.2 = m.syncDir.2 ∧ Gl m.syncDir.1 x.syncDir.1 := by
  unfold Rf.syncDir
  rw [h.down]
  cases hd : m.down with
  | true =>
    have : m.syncDir = (m, 82) := by unfold Dk.syncDir Dk.thing; rw [if_pos hd]
    rw [this]
    exact ⟨rfl, h⟩
  | false =>
    simp only [Bool.false_eq_true, if_false]
    refine h.thing hd (fun m => m.keep m.pend.length) _ fun hc hfl ex => ?_
    rw [ex, h.names]
    have hk : Go.Proofs.YtdkpbphgaenlnaaGreat.redo (m.pend.take m.pend.length) m.kept = m.names := by rw [List.take_length, ← h.redo]
    have hkk : (m.sooner.keep m.sooner.pend.length).kept = m.names := hk
    have hv := h.valN
    refine ⟨h.most, h.len, h.names, hkk.symm, rfl, ?_, by show sooner x.fail = sooner m.fail; rw [h.fail], by show sooner x.cut = sooner m.cut; rw [h.cut], h.down, ?_, ?_, ?_, ?_, ?_, h.used, h.top⟩
    · show wrap64 (x.did + 1) = wrap64 (m.done + 1)
      rw [h.did]
    · show m.names = (m.sooner.keep m.sooner.pend.length).kept
      rw [hkk]
    · show Sorted (m.sooner.keep m.sooner.pend.length).kept
      rw [hkk]; exact h.srtN
    · show (V (m.sooner.keep m.sooner.pend.length).kept ++ []).Nodup
      rw [hkk, List.append_nil]; exact hv.1
    · show ∀ i ∈ V (m.sooner.keep m.sooner.pend.length).kept ++ [], i < m.made
      rw [hkk, List.append_nil]
      exact fun i hi => h.lt i (hv.2 i hi)
    · show ∀ i ∈ V (m.sooner.keep m.sooner.pend.length).kept ++ [], x.files.getD i ⟨[], 0⟩ = m.files i
      rw [hkk, List.append_nil]
      exact fun i hi => h.same i (hv.2 i hi)
def Rf.flip (m : Rf) (n : Nm) (y : Int) (z : Nat) : Rf × Bool := match Dir.find n m.names with
  | none => (m, false)
  | some f => if y < 0 ∨ 8 * (m.len f : Int) ≤ y then (m, false)
    else (m.set f ⟨flipT (z * 2 ^ (y.toNat % 8)) (y.toNat / 8) (m.files.getD f ⟨[], 0⟩).bytes, (m.files.getD f ⟨[], 0⟩).kept⟩, true)
theorem Gl.flip (h : Gl m x) (n : Nm) (y : Int) (z : Nat) : (x.flip n y z).2 = (m.flip n y z).2 ∧ Gl (m.flip n y z).1 (x.flip n y z).1 := by
  unfold Rf.flip Dk.flip
  rw [h.names]
  cases hf : Dir.find n m.names with
  | none => exact ⟨rfl, h⟩
  | some f =>
    dsimp only
    unfold Rf.len
    rw [(h.file hf).1]
    by_cases hy : y < 0 ∨ 8 * ((m.files f).bytes.length : Int) ≤ y
    · rw [if_pos hy, if_pos hy]
      exact ⟨rfl, h⟩
    · rw [if_neg hy, if_neg hy]
      refine ⟨rfl, ?_⟩
      have h1 := h.setF (f := f) (v := ⟨flipT (z * 2 ^ (y.toNat % 8)) (y.toNat / 8) (m.files f).bytes, (m.files f).kept⟩) (u := m.used) (h.file hf).2 (by
        rw [h.used, S_fun (l := m.names) (ln := fun i => (m.files i).bytes.length) (ln' := fun i => (((m.setFile f ⟨flipT (z * 2 ^ (y.toNat % 8)) (y.toNat / 8) (m.files f).bytes, (m.files f).kept⟩).files i).bytes.length)) fun i hi => by
          show (if i = f then _ else _ : Fl).bytes.length = _
          split
          · rename_i e; rw [e]; exact flipT_length _ _ _
          · rfl])
      exact h1.nums rfl rfl rfl rfl rfl rfl rfl rfl rfl rfl rfl rfl h.did h.fail h.cut h.down
theorem sum_cast (ln : Nat → Nat) : ∀ l : Dir, (l.map fun p => (ln p.2 : Int)).sum = (S ln l : Nat)
  | [] => rfl
  | y :: r => by
    have ih := sum_cast ln r
    show (ln y.2 : Int) + (r.map fun p => (ln p.2 : Int)).sum = ((ln y.2 + S ln r : Nat) : Int)
    rw [ih]
    simp
theorem Gl.boot (h : Gl m x) (ok : DkOk K m) (hK : K ≤ 100000) (dirs : Int) (l : List Int) : Gl (m.boot dirs l) (x.boot dirs l) := by
  obtain ⟨k, hk⟩ : ∃ k, (min (max dirs 0) (m.pend.length : Int)).toNat = k := ⟨_, rfl⟩
  have ht : m.pend.take dirs.toNat = m.pend.take k := by
    by_cases hd : dirs.toNat ≤ m.pend.length
    · congr 1; omega
    · rw [List.take_of_length_le (by omega), List.take_of_length_le (by omega)]
  have hkept : (m.keep (min (max dirs 0) (m.pend.length : Int)).toNat).kept = Go.Proofs.YtdkpbphgaenlnaaGreat.redo (m.pend.take k) m.kept := by
    rw [hk]; rfl
  obtain ⟨r1, r2⟩ := redo_same (m.pend.take k) h.srt
  have hu : (V m.kept ++ (madeI (m.pend.take k) ++ [])).Nodup := by
    rw [List.append_nil]
    exact h.uniq.sublist ((List.Sublist.filterMap _ (List.take_sublist _ _)).append_left _)
  obtain ⟨v1, v2⟩ := redo_vals (m.pend.take k) hu
  rw [List.append_nil] at v1
  have hin : ∀ i ∈ V (Go.Proofs.YtdkpbphgaenlnaaGreat.redo (m.pend.take k) m.kept), i ∈ V m.kept ++ madeI m.pend := fun i hi => by
    rcases List.mem_append.1 (v2 i hi) with h1 | h1
    · exact List.mem_append_left _ h1
    · exact List.mem_append_right _ ((List.Sublist.filterMap _ (List.take_sublist _ _)).subset h1)
  have hfl : ∀ i ∈ V (Go.Proofs.YtdkpbphgaenlnaaGreat.redo (m.pend.take k) m.kept), (m.boot dirs l).files i = (m.files i).lose (more l i) := fun i hi => by
    show (if (m.keep (min (max dirs 0) (m.pend.length : Int)).toNat).kept.any (fun p => p.2 == i) then (m.files i).lose (more l i) else m.files i) = _
    rw [hkept, if_pos]
    obtain ⟨p, hp, e⟩ := List.mem_map.1 hi
    exact List.any_eq_true.2 ⟨p, hp, by simpa using e⟩
  have hb := ok.boot dirs l
  have hbn : (m.boot dirs l).names = Go.Proofs.YtdkpbphgaenlnaaGreat.redo (m.pend.take k) m.kept := hkept
  have hbk : (m.boot dirs l).kept = Go.Proofs.YtdkpbphgaenlnaaGreat.redo (m.pend.take k) m.kept := hkept
  have hbp : (m.boot dirs l).pend = [] := rfl
  have hbu : (m.boot dirs l).used = wrap64 (((m.boot dirs l).names.map fun p => (((m.boot dirs l).files p.2).bytes.length : Int)).sum) := rfl
  refine ⟨h.most, ?_, ?_, ?_, rfl, h.did, rfl, rfl, rfl, ?_, by rw [hbk]; exact r2, by rw [hbk, hbp]; show (V _ ++ []).Nodup; rw [List.append_nil]; exact v1, ?_, ?_, ?_, h.top⟩
  · show (x.files.mapIdx fun i f => f.lose (more l i)).length = m.made
    rw [List.length_mapIdx, h.len]
  · show rredo (x.pend.take dirs.toNat) x.kept = (m.boot dirs l).names
    rw [h.pend, h.kept, ht, r1, hbn]
  · show rredo (x.pend.take dirs.toNat) x.kept = (m.boot dirs l).kept
    rw [h.pend, h.kept, ht, r1, hbk]
  · rw [hbn, hbk, hbp]; rfl
  · rw [hbk, hbp]
    show ∀ i ∈ V _ ++ [], i < m.made
    rw [List.append_nil]
    exact fun i hi => h.lt i (hin i hi)
  · rw [hbk, hbp]
    show ∀ i ∈ V _ ++ [], (x.files.mapIdx fun i f => f.lose (more l i)).getD i ⟨[], 0⟩ = _
    rw [List.append_nil]
    intro i hi
    have h1 := h.same i (hin i hi)
    have h2 : i < x.files.length := by rw [h.len]; exact h.lt i (hin i hi)
    rw [hfl i hi, ← h1, List.getD_eq_getElem?_getD, List.getD_eq_getElem?_getD, List.getElem?_mapIdx, List.getElem?_eq_getElem h2]
    rfl
  · rw [hbu, sum_cast fun i => ((m.boot dirs l).files i).bytes.length]
    refine IntWalk.wrap64_in _ ?_
    have h1 := S_le (ln := fun i => ((m.boot dirs l).files i).bytes.length) (K := K) (l := (m.boot dirs l).names) fun i hi => (hb.bytes i (by
      rw [hbn] at hi
      exact h.lt i (hin i hi))).1
    have h2 := hb.names
    have h3 : (m.boot dirs l).names.length * K ≤ 100000 * 100000 := Nat.mul_le_mul (by omega) hK
    omega
end
end Go.Proofs.YtdkpbphgaenlnaaGreat

/-
  The document's disk in memory; where a name is; a thing.
-/
namespace Go.Proofs.YtdkpbphgaenlnaaGreat
open Go.RowKit
set_option linter.unusedVariables false
set_option linter.unusedSimpArgs false

def flC (f : Fl) : List Value := [.string ⟨f.bytes.toArray⟩, .int .i64 (f.kept : Int)]
def enC (p : Nm × Nat) : List Value := [.string ⟨p.1.toArray⟩, .int .i64 (p.2 : Int)]
def chC : Ch → List Value
  | .made n f => [.int .i64 1, .string ⟨n.toArray⟩, .string ⟨#[]⟩, .int .i64 (f : Int)]
  | .moved n to => [.int .i64 2, .string ⟨n.toArray⟩, .string ⟨to.toArray⟩, .int .i64 0]
  | .taken n => [.int .i64 3, .string ⟨n.toArray⟩, .string ⟨#[]⟩, .int .i64 0]
theorem enL (p : Nm × Nat) : (enC p).length = 2 := rfl
theorem flL (f : Fl) : (flC f).length = 2 := rfl
theorem chL (c : Ch) : (chC c).length = 4 := by cases c <;> rfl

/-! Where a name is. -/
/-- Among the first j there is none of that name. -/
def NotIn (x : Nm) (l : Dir) (j : Nat) : Prop := ∀ i, i < j → ∀ q, l[i]? = some q → q.1 ≠ x
def fidx (n : Nm) (l : Dir) : Int := match l.findIdx? (fun p => p.1 == n) with
  | some i => (i : Nat)
  | none => -1
theorem fidx_at {n : Nm} {l : Dir} {j f : Nat} {p : Nm × Nat} (h : NotIn n l j) (hp : l[j]? = some p) (hn : p.1 = n) : fidx n l = (j : Nat) := by
  have hj := (List.getElem?_eq_some_iff.1 hp)
  have : l.findIdx? (fun p => p.1 == n) = some j := by
    rw [List.findIdx?_eq_some_iff_getElem]
    refine ⟨hj.1, ?_, fun i hi => ?_⟩
    · rw [hj.2]; simpa using hn
    · have := h i hi _ (List.getElem?_eq_getElem (Nat.lt_trans hi hj.1))
      simpa using this
  unfold fidx
  rw [this]
theorem fidx_none {n : Nm} {l : Dir} (h : NotIn n l l.length) : fidx n l = -1 := by
  have : l.findIdx? (fun p => p.1 == n) = none := by
    rw [List.findIdx?_eq_none_iff]
    intro q hq
    obtain ⟨i, hi, rfl⟩ := List.mem_iff_getElem.1 hq
    have := h i hi _ (List.getElem?_eq_getElem hi)
    simpa using this
  unfold fidx
  rw [this]
theorem fidx_find {n : Nm} {l : Dir} : (Dir.find n l = none ∧ fidx n l = -1) ∨ ∃ (i f : Nat), Dir.find n l = some f ∧ fidx n l = (i : Nat) ∧ l[i]? = some (n, f) := by
  unfold fidx Dir.find
  cases h : l.findIdx? (fun p => p.1 == n) with
  | none =>
    left
    rw [List.findIdx?_eq_none_iff] at h
    refine ⟨?_, rfl⟩
    rw [Option.map_eq_none_iff, List.find?_eq_none]
    intro q hq
    simp [h q hq]
  | some i =>
    right
    rw [List.findIdx?_eq_some_iff_getElem] at h
    obtain ⟨hi, h1, h2⟩ := h
    have h3 : l.find? (fun p => p.1 == n) = some l[i] := by
      rw [List.find?_eq_some_iff_getElem]
      exact ⟨h1, i, hi, rfl, fun j hj => by have := h2 j hj; simpa using this⟩
    refine ⟨i, l[i].2, by rw [h3]; rfl, rfl, ?_⟩
    rw [List.getElem?_eq_getElem hi]
    have : l[i].1 = n := by simpa using h1
    rw [← this]

set_option maxRecDepth 100000 in
set_option maxHeartbeats 4000000 in
theorem rfind_any (w : World) {A : Option Addr} {n c : Nat} {l : Dir} (x : Nm) (h : Rw w A n enC 2 l) (hn : n ≤ 1000000000) :
    Calls Tryz.prog 64 #[.slice A n c, .string ⟨x.toArray⟩] w fun e w' => e = .returned (.int .i64 (fidx x l)) ∧ w = w' := by
  have H := Lib.hid h
  have HL := Lib.hid h.len
  clear h
  go_enter Tryz.func64, Tryz.ntmps64
  go_wp2_with (fail)
  go_loopw [5] (fun vi wr => ∃ j : Nat, j ≤ n ∧ vi = .int .i64 (j : Nat) ∧ Hid (NotIn x l j) ∧ w = wr) (fun i _ => n - (intOf i).toNat)
  case atStart => exact ⟨0, by omega, rfl, Lib.hid (fun i hi => absurd hi (Nat.not_lt_zero _)), rfl⟩
  case round =>
    obtain ⟨j, hj, rfl, HJ, rfl⟩ := hrel
    by_cases hlt : j < n
    · have hlt' : (j : Int) < (n : Int) := by omega
      have hj0 : (0 : Int) ≤ (j : Int) := by omega
      obtain ⟨p, hp⟩ : ∃ p, l[j]? = some p := ⟨_, List.getElem?_eq_getElem (by rw [HL.out]; exact hlt)⟩
      obtain ⟨g, rfl, hg, hc⟩ := H.out.spot j p hp
      have c0 : w.cell? { block := g, off := j * 2 } = some (.string ⟨p.1.toArray⟩) := hc 0 (by omega)
      have HP := Lib.hid hp
      have hwj : IntKind.i64.wrap ((j : Int) + 1) = (j : Int) + 1 := IntWalk.i64_in _ (by omega)
      clear hc hp
      by_cases hpx : p.1 = x
      · have hq : (p.1 == x) = true := by rw [beq_iff_eq]; exact hpx
        have HF := Lib.hid (show fidx x l = (j : Nat) from fidx_at (f := 0) HJ.out HP.out hpx)
        clear hpx
        go_wp2_with (fail)
        all_goals first
          | (go_ret; rw [HF.out]; exact ⟨rfl, rfl⟩)
          | (exfalso; simp_all; done)
      · have hq : (p.1 == x) = false := by rw [beq_eq_false_iff_ne]; exact hpx
        have HN := Lib.hid (show NotIn x l (j + 1) from fun i hi q hqq => by
          rcases Nat.lt_or_ge i j with h1 | h1
          · exact HJ.out i h1 q hqq
          · obtain rfl : i = j := by omega
            rw [HP.out] at hqq
            injection hqq with hqq
            rw [← hqq]; exact hpx)
        clear hpx
        go_wp2_with (fail)
        exact ⟨⟨j + 1, hlt, rfl, HN, trivial⟩, by simp only [intOf]; omega⟩
    · obtain rfl : j = n := by omega
      have HF := Lib.hid (show fidx x l = -1 from fidx_none (by rw [HL.out]; exact HJ.out))
      go_wp2_with (fail)
      go_ret
      rw [HF.out]
      exact ⟨rfl, rfl⟩

/-! The disk. -/
theorem slice_own2 {w : World} {base : Nat} {e : TypeId} {size : Nat} {v : Value} {n : Nat} {xs : List Value} (h : w.ownsRow base e size v n xs) : ∃ A c, v = .slice A n c := by
  rcases h.2 with ⟨rfl, rfl⟩ | ⟨g, cap, _, rfl, _⟩
  · exact ⟨none, 0, rfl⟩
  · exact ⟨_, cap, rfl⟩
def rCells (m : Rf) (fv nv kv pv : Value) : Array Value := #[.int .i64 m.most, fv, nv, kv, pv, .int .i64 m.did, .int .i64 m.fail, .int .i64 m.cut, .bool m.down]
structure RfAt (w : World) (r : Nat) (own : Nat → Prop) (m : Rf) (fv nv kv pv : Value) : Prop where
  top : Whole w r 77 (rCells m fv nv kv pv)
  ro : own r
  lt : ∀ k, own k → k < w.heap.size
  files : w.ownsRow 0 97 2 fv m.files.length (m.files.flatMap flC)
  fo : ∀ k, fv.ownBlock = some k → own k
  names : w.ownsRow 0 102 2 nv m.names.length (m.names.flatMap enC)
  no : ∀ k, nv.ownBlock = some k → own k
  kept : w.ownsRow 0 102 2 kv m.kept.length (m.kept.flatMap enC)
  ko : ∀ k, kv.ownBlock = some k → own k
  pend : w.ownsRow 0 95 4 pv m.pend.length (m.pend.flatMap chC)
  po : ∀ k, pv.ownBlock = some k → own k
/-- Behind a call. -/
def RfTo (w : World) (r : Nat) (own : Nat → Prop) (w' : World) (m' : Rf) : Prop := ∃ own' fv nv kv pv, RfAt w' r own' m' fv nv kv pv ∧ Spares own w w' ∧ ∀ k, own' k → own k ∨ w.heap.size ≤ k
section
variable {w w' : World} {r : Nat} {own : Nat → Prop} {m m' : Rf} {fv nv kv pv : Value}
theorem RfAt.stay (h : RfAt w r own m fv nv kv pv) (hs : ∀ k, own k → w'.heap[k]? = w.heap[k]?) (hz : w.heap.size ≤ w'.heap.size) : RfAt w' r own m fv nv kv pv :=
  ⟨h.top.same (hs r h.ro), h.ro, fun k hk => Nat.lt_of_lt_of_le (h.lt k hk) hz, row_same h.files fun k hk => hs k (h.fo k hk), h.fo, row_same h.names fun k hk => hs k (h.no k hk), h.no, row_same h.kept fun k hk => hs k (h.ko k hk), h.ko, row_same h.pend fun k hk => hs k (h.po k hk), h.po⟩
theorem RfAt.grow (h : RfAt w r own m fv nv kv pv) (hg : Grows w w') : RfAt w' r own m fv nv kv pv := h.stay (fun k hk => hg.block k (h.lt k hk)) hg.size
theorem RfAt.cell (h : RfAt w r own m fv nv kv pv) (i : Nat) : w.cell? ⟨r, i, none⟩ = (rCells m fv nv kv pv)[i]? := h.top.cell i
theorem RfAt.namesRw (h : RfAt w r own m fv nv kv pv) : ∃ A c, nv = .slice A m.names.length c ∧ Rw w A m.names.length enC 2 m.names := by
  obtain ⟨A, c, he⟩ := slice_own2 h.names
  exact ⟨A, c, he, Rw.owned enL rfl (he ▸ h.names)⟩
theorem RfAt.filesRw (h : RfAt w r own m fv nv kv pv) : ∃ A c, fv = .slice A m.files.length c ∧ Rw w A m.files.length flC 2 m.files := by
  obtain ⟨A, c, he⟩ := slice_own2 h.files
  exact ⟨A, c, he, Rw.owned flL rfl (he ▸ h.files)⟩
/-- A block of another type is not the disk's own block. -/
theorem top_unlike {t : TypeId} {e : TypeId} {k : Nat} {v : Value} {n b : Nat} {xs : List Value} {cs : Array Value} (h : Whole w r t cs) (hr : w.ownsRow b e k v n xs) (hne : e ≠ t) : v.ownBlock ≠ some r := fun he => by
  obtain ⟨cur, h1⟩ := row_block hr he
  unfold Whole at h
  rw [h1] at h
  injection h with h
  injection h with _ h _
  exact hne h
/-- One cell of the disk's own block is set. -/
theorem RfAt.set (h : RfAt w r own m fv nv kv pv) {m' : Rf} {fv' nv' kv' pv' : Value} (i : Nat) (v : Value) (hd : (rCells m fv nv kv pv).setIfInBounds i v = rCells m' fv' nv' kv' pv')
    (h1 : fv' = fv ∧ m'.files = m.files) (h2 : nv' = nv ∧ m'.names = m.names) (h3 : kv' = kv ∧ m'.kept = m.kept) (h4 : pv' = pv ∧ m'.pend = m.pend) : RfAt (w.setCell ⟨r, i, none⟩ v) r own m' fv' nv' kv' pv' := by
  have hs : Spares (fun k => k = r) w (w.setCell ⟨r, i, none⟩ v) := (Spares.refl (fun k => k = r) w).setCell (p := ⟨r, i, none⟩) rfl v
  obtain ⟨rfl, e1⟩ := h1
  obtain ⟨rfl, e2⟩ := h2
  obtain ⟨rfl, e3⟩ := h3
  obtain ⟨rfl, e4⟩ := h4
  have keep : ∀ {e : TypeId} {k n : Nat} {u : Value} {xs : List Value}, w.ownsRow 0 e k u n xs → e ≠ 77 → (w.setCell ⟨r, i, none⟩ v).ownsRow 0 e k u n xs := fun hr hne => row_same hr fun k hk => hs.same k (hr.lt k hk).2 fun e => top_unlike h.top hr hne (e ▸ hk)
  exact ⟨hd ▸ h.top.put i v, h.ro, fun k hk => Nat.lt_of_lt_of_le (h.lt k hk) hs.size, by rw [e1]; exact keep h.files (by decide), h.fo, by rw [e2]; exact keep h.names (by decide), h.no, by rw [e3]; exact keep h.kept (by decide), h.ko, by rw [e4]; exact keep h.pend (by decide), h.po⟩
theorem RfTo.same (h : RfAt w' r own m' fv nv kv pv) (hs : Spares (fun k => k = r) w w') (hro : own r) : RfTo w r own w' m' := ⟨own, fv, nv, kv, pv, h, hs.wider fun k _ e => e ▸ hro, fun k hk => .inl hk⟩

theorem rdown_any (w : World) (h : RfAt w r own m fv nv kv pv) : Calls Tryz.prog 76 #[.pointer (some ⟨r, 0, none⟩)] w fun e w' => e = .returned (.bool m.down) ∧ w = w' := by
  have c8 : w.cell? ⟨r, 8, none⟩ = some (.bool m.down) := h.cell 8
  clear h
  go_enter Tryz.func76, Tryz.ntmps76
  go_wp2
  go_ret
  exact ⟨rfl, rfl⟩
theorem rdone_any (w : World) (h : RfAt w r own m fv nv kv pv) : Calls Tryz.prog 30 #[.pointer (some ⟨r, 0, none⟩)] w fun e w' => e = .returned (.int .i64 m.did) ∧ w = w' := by
  have c8 : w.cell? ⟨r, 5, none⟩ = some (.int .i64 m.did) := h.cell 5
  clear h
  go_enter Tryz.func30, Tryz.ntmps30
  go_wp2
  go_ret
  exact ⟨rfl, rfl⟩
theorem rfail_any (w : World) (y : Int) (h : RfAt w r own m fv nv kv pv) : Calls Tryz.prog 12 #[.pointer (some ⟨r, 0, none⟩), .int .i64 y] w fun e w' => e = .returned (.tuple #[]) ∧ RfTo w r own w' (m.setFail y) := by
  have c6 : w.cell? ⟨r, 6, none⟩ = some (.int .i64 m.fail) := h.cell 6
  have f6 := h.top.free 6
  have H := Lib.hid h
  clear h
  by_cases hy : 0 ≤ y
  · go_enter Tryz.func12, Tryz.ntmps12
    go_wp2
    go_end0
    exact ⟨rfl, RfTo.same (H.out.set (m' := m.setFail y) 6 _ (by simp [rCells, Rf.setFail, hy]) ⟨rfl, rfl⟩ ⟨rfl, rfl⟩ ⟨rfl, rfl⟩ ⟨rfl, rfl⟩) ((Spares.refl (fun k => k = r) w).setCell (p := ⟨r, 6, none⟩) rfl _) H.out.ro⟩
  · have this : m.setFail y = m := by simp [Rf.setFail, hy]
    rw [this]
    clear this
    go_enter Tryz.func12, Tryz.ntmps12
    go_wp2
    go_end0
    exact ⟨rfl, RfTo.same H.out (Spares.refl _ _) H.out.ro⟩
theorem rcut_any (w : World) (y : Int) (h : RfAt w r own m fv nv kv pv) : Calls Tryz.prog 14 #[.pointer (some ⟨r, 0, none⟩), .int .i64 y] w fun e w' => e = .returned (.tuple #[]) ∧ RfTo w r own w' (m.setCut y) := by
  have c6 : w.cell? ⟨r, 7, none⟩ = some (.int .i64 m.cut) := h.cell 7
  have f6 := h.top.free 7
  have H := Lib.hid h
  clear h
  by_cases hy : 0 ≤ y
  · go_enter Tryz.func14, Tryz.ntmps14
    go_wp2
    go_end0
    exact ⟨rfl, RfTo.same (H.out.set (m' := m.setCut y) 7 _ (by simp [rCells, Rf.setCut, hy]) ⟨rfl, rfl⟩ ⟨rfl, rfl⟩ ⟨rfl, rfl⟩ ⟨rfl, rfl⟩) ((Spares.refl (fun k => k = r) w).setCell (p := ⟨r, 7, none⟩) rfl _) H.out.ro⟩
  · have this : m.setCut y = m := by simp [Rf.setCut, hy]
    rw [this]
    clear this
    go_enter Tryz.func14, Tryz.ntmps14
    go_wp2
    go_end0
    exact ⟨rfl, RfTo.same H.out (Spares.refl _ _) H.out.ro⟩
end
end Go.Proofs.YtdkpbphgaenlnaaGreat

/-
  The document's disk: a thing; what is asked of it.
-/
namespace Go.Proofs.YtdkpbphgaenlnaaGreat
open Go.RowKit
set_option linter.unusedVariables false
set_option linter.unusedSimpArgs false
section
variable {w w' : World} {r : Nat} {own : Nat → Prop} {m m' : Rf} {fv nv kv pv : Value}
set_option maxHeartbeats 1000000 in
theorem rthing_pp (w : World) (h : RfAt w r own m fv nv kv pv) (hc : 0 < m.cut) (hf : 0 < m.fail) (hb : m.cut ≤ 9223372036854775807 ∧ m.fail ≤ 9223372036854775807) : Calls Tryz.prog 72 #[.pointer (some ⟨r, 0, none⟩)] w fun e w' => e = .returned (.int .i64 m.thing.2) ∧ ∃ X, X = m.thing.1 ∧ RfAt w' r own X fv nv kv pv ∧ Spares (fun k => k = r) w w' := by
  have e : m.thing = (({ m with cut := m.cut - 1, fail := m.fail - 1, did := wrap64 (m.did + 1) } : Rf), 0) := by
    unfold Rf.thing Rf.sooner Go.Proofs.YtdkpbphgaenlnaaGreat.sooner
    rw [if_neg (by omega), if_neg (by omega)]
    simp [hc, hf]
  rw [e]
  clear e
  have c5 : w.cell? ⟨r, 5, none⟩ = some (.int .i64 m.did) := h.cell 5
  have c6 : w.cell? ⟨r, 6, none⟩ = some (.int .i64 m.fail) := h.cell 6
  have c7 : w.cell? ⟨r, 7, none⟩ = some (.int .i64 m.cut) := h.cell 7
  have c8 : w.cell? ⟨r, 8, none⟩ = some (.bool m.down) := h.cell 8
  have f5 := h.top.free 5
  have f6 := h.top.free 6
  have f7 := h.top.free 7
  have f8 := h.top.free 8
  have e1 : wrap64 (m.cut - 1) = m.cut - 1 := IntWalk.wrap64_in _ (by omega)
  have e1' : IntKind.i64.wrap (m.cut - 1) = m.cut - 1 := IntWalk.i64_in _ (by omega)
  have e2 : wrap64 (m.fail - 1) = m.fail - 1 := IntWalk.wrap64_in _ (by omega)
  have e2' : IntKind.i64.wrap (m.fail - 1) = m.fail - 1 := IntWalk.i64_in _ (by omega)
  have d1 : (m.cut == 0) = false := by rw [beq_eq_false_iff_ne]; omega
  have d2 : (m.fail == 0) = false := by rw [beq_eq_false_iff_ne]; omega
  have s0 := h.set (m' := { m with cut := m.cut - 1 }) 7 (.int .i64 (m.cut - 1)) rfl ⟨rfl, rfl⟩ ⟨rfl, rfl⟩ ⟨rfl, rfl⟩ ⟨rfl, rfl⟩
  have s1 := s0.set (m' := { m with cut := m.cut - 1, fail := m.fail - 1 }) 6 (.int .i64 (m.fail - 1)) rfl ⟨rfl, rfl⟩ ⟨rfl, rfl⟩ ⟨rfl, rfl⟩ ⟨rfl, rfl⟩
  have s2 := s1.set (m' := { m with cut := m.cut - 1, fail := m.fail - 1, did := wrap64 (m.did + 1) }) 5 (.int .i64 (wrap64 (m.did + 1))) rfl ⟨rfl, rfl⟩ ⟨rfl, rfl⟩ ⟨rfl, rfl⟩ ⟨rfl, rfl⟩
  have HS := Lib.hid (And.intro s2 ((((Spares.refl (fun k => k = r) w).setCell (p := ⟨r, 7, none⟩) rfl (.int .i64 (m.cut - 1))).setCell (p := ⟨r, 6, none⟩) rfl (.int .i64 (m.fail - 1))).setCell (p := ⟨r, 5, none⟩) rfl (.int .i64 (wrap64 (m.did + 1)))))
  clear h s0 s1 s2
  go_enter Tryz.func72, Tryz.ntmps72
  go_wp2
  go_ret
  exact ⟨rfl, _, rfl, HS.out.1, HS.out.2⟩
set_option maxHeartbeats 1000000 in
theorem rthing_pz (w : World) (h : RfAt w r own m fv nv kv pv) (hc : 0 < m.cut) (hf : m.fail = 0) (hb : m.cut ≤ 9223372036854775807 ∧ m.fail ≤ 9223372036854775807) : Calls Tryz.prog 72 #[.pointer (some ⟨r, 0, none⟩)] w fun e w' => e = .returned (.int .i64 m.thing.2) ∧ ∃ X, X = m.thing.1 ∧ RfAt w' r own X fv nv kv pv ∧ Spares (fun k => k = r) w w' := by
  have e : m.thing = (({ m with cut := m.cut - 1, fail := -1 } : Rf), 81) := by
    unfold Rf.thing Rf.sooner Go.Proofs.YtdkpbphgaenlnaaGreat.sooner
    rw [if_neg (by omega), if_pos hf]
    simp [hc, show ¬ (0 < m.fail) by omega]
  rw [e]
  clear e
  have c5 : w.cell? ⟨r, 5, none⟩ = some (.int .i64 m.did) := h.cell 5
  have c6 : w.cell? ⟨r, 6, none⟩ = some (.int .i64 m.fail) := h.cell 6
  have c7 : w.cell? ⟨r, 7, none⟩ = some (.int .i64 m.cut) := h.cell 7
  have c8 : w.cell? ⟨r, 8, none⟩ = some (.bool m.down) := h.cell 8
  have f5 := h.top.free 5
  have f6 := h.top.free 6
  have f7 := h.top.free 7
  have f8 := h.top.free 8
  have e1 : wrap64 (m.cut - 1) = m.cut - 1 := IntWalk.wrap64_in _ (by omega)
  have e1' : IntKind.i64.wrap (m.cut - 1) = m.cut - 1 := IntWalk.i64_in _ (by omega)
  have d1 : (m.cut == 0) = false := by rw [beq_eq_false_iff_ne]; omega
  rw [hf] at c6
  have s0 := h.set (m' := { m with cut := m.cut - 1 }) 7 (.int .i64 (m.cut - 1)) rfl ⟨rfl, rfl⟩ ⟨rfl, rfl⟩ ⟨rfl, rfl⟩ ⟨rfl, rfl⟩
  have s1 := s0.set (m' := { m with cut := m.cut - 1, fail := -1 }) 6 (.int .i64 (-1)) rfl ⟨rfl, rfl⟩ ⟨rfl, rfl⟩ ⟨rfl, rfl⟩ ⟨rfl, rfl⟩
  have HS := Lib.hid (And.intro s1 (((Spares.refl (fun k => k = r) w).setCell (p := ⟨r, 7, none⟩) rfl (.int .i64 (m.cut - 1))).setCell (p := ⟨r, 6, none⟩) rfl (.int .i64 (-1))))
  clear h s0 s1
  go_enter Tryz.func72, Tryz.ntmps72
  go_wp2
  go_ret
  exact ⟨rfl, _, rfl, HS.out.1, HS.out.2⟩
set_option maxHeartbeats 1000000 in
theorem rthing_pn (w : World) (h : RfAt w r own m fv nv kv pv) (hc : 0 < m.cut) (hf : m.fail < 0) (hb : m.cut ≤ 9223372036854775807 ∧ m.fail ≤ 9223372036854775807) : Calls Tryz.prog 72 #[.pointer (some ⟨r, 0, none⟩)] w fun e w' => e = .returned (.int .i64 m.thing.2) ∧ ∃ X, X = m.thing.1 ∧ RfAt w' r own X fv nv kv pv ∧ Spares (fun k => k = r) w w' := by
  have e : m.thing = (({ m with cut := m.cut - 1, did := wrap64 (m.did + 1) } : Rf), 0) := by
    unfold Rf.thing Rf.sooner Go.Proofs.YtdkpbphgaenlnaaGreat.sooner
    rw [if_neg (by omega), if_neg (by omega)]
    simp [hc, show ¬ (0 < m.fail) by omega]
  rw [e]
  clear e
  have c5 : w.cell? ⟨r, 5, none⟩ = some (.int .i64 m.did) := h.cell 5
  have c6 : w.cell? ⟨r, 6, none⟩ = some (.int .i64 m.fail) := h.cell 6
  have c7 : w.cell? ⟨r, 7, none⟩ = some (.int .i64 m.cut) := h.cell 7
  have c8 : w.cell? ⟨r, 8, none⟩ = some (.bool m.down) := h.cell 8
  have f5 := h.top.free 5
  have f6 := h.top.free 6
  have f7 := h.top.free 7
  have f8 := h.top.free 8
  have e1 : wrap64 (m.cut - 1) = m.cut - 1 := IntWalk.wrap64_in _ (by omega)
  have e1' : IntKind.i64.wrap (m.cut - 1) = m.cut - 1 := IntWalk.i64_in _ (by omega)
  have d1 : (m.cut == 0) = false := by rw [beq_eq_false_iff_ne]; omega
  have d2 : (m.fail == 0) = false := by rw [beq_eq_false_iff_ne]; omega
  have s0 := h.set (m' := { m with cut := m.cut - 1 }) 7 (.int .i64 (m.cut - 1)) rfl ⟨rfl, rfl⟩ ⟨rfl, rfl⟩ ⟨rfl, rfl⟩ ⟨rfl, rfl⟩
  have s1 := s0.set (m' := { m with cut := m.cut - 1, did := wrap64 (m.did + 1) }) 5 (.int .i64 (wrap64 (m.did + 1))) rfl ⟨rfl, rfl⟩ ⟨rfl, rfl⟩ ⟨rfl, rfl⟩ ⟨rfl, rfl⟩
  have HS := Lib.hid (And.intro s1 (((Spares.refl (fun k => k = r) w).setCell (p := ⟨r, 7, none⟩) rfl (.int .i64 (m.cut - 1))).setCell (p := ⟨r, 5, none⟩) rfl (.int .i64 (wrap64 (m.did + 1)))))
  clear h s0 s1
  go_enter Tryz.func72, Tryz.ntmps72
  go_wp2
  go_ret
  exact ⟨rfl, _, rfl, HS.out.1, HS.out.2⟩
set_option maxHeartbeats 1000000 in
theorem rthing_np (w : World) (h : RfAt w r own m fv nv kv pv) (hc : m.cut < 0) (hf : 0 < m.fail) (hb : m.cut ≤ 9223372036854775807 ∧ m.fail ≤ 9223372036854775807) : Calls Tryz.prog 72 #[.pointer (some ⟨r, 0, none⟩)] w fun e w' => e = .returned (.int .i64 m.thing.2) ∧ ∃ X, X = m.thing.1 ∧ RfAt w' r own X fv nv kv pv ∧ Spares (fun k => k = r) w w' := by
  have e : m.thing = (({ m with fail := m.fail - 1, did := wrap64 (m.did + 1) } : Rf), 0) := by
    unfold Rf.thing Rf.sooner Go.Proofs.YtdkpbphgaenlnaaGreat.sooner
    rw [if_neg (by omega), if_neg (by omega)]
    simp [show ¬ (0 < m.cut) by omega, hf]
  rw [e]
  clear e
  have c5 : w.cell? ⟨r, 5, none⟩ = some (.int .i64 m.did) := h.cell 5
  have c6 : w.cell? ⟨r, 6, none⟩ = some (.int .i64 m.fail) := h.cell 6
  have c7 : w.cell? ⟨r, 7, none⟩ = some (.int .i64 m.cut) := h.cell 7
  have c8 : w.cell? ⟨r, 8, none⟩ = some (.bool m.down) := h.cell 8
  have f5 := h.top.free 5
  have f6 := h.top.free 6
  have f7 := h.top.free 7
  have f8 := h.top.free 8
  have e2 : wrap64 (m.fail - 1) = m.fail - 1 := IntWalk.wrap64_in _ (by omega)
  have e2' : IntKind.i64.wrap (m.fail - 1) = m.fail - 1 := IntWalk.i64_in _ (by omega)
  have d1 : (m.cut == 0) = false := by rw [beq_eq_false_iff_ne]; omega
  have d2 : (m.fail == 0) = false := by rw [beq_eq_false_iff_ne]; omega
  have s0 := h.set (m' := { m with fail := m.fail - 1 }) 6 (.int .i64 (m.fail - 1)) rfl ⟨rfl, rfl⟩ ⟨rfl, rfl⟩ ⟨rfl, rfl⟩ ⟨rfl, rfl⟩
  have s1 := s0.set (m' := { m with fail := m.fail - 1, did := wrap64 (m.did + 1) }) 5 (.int .i64 (wrap64 (m.did + 1))) rfl ⟨rfl, rfl⟩ ⟨rfl, rfl⟩ ⟨rfl, rfl⟩ ⟨rfl, rfl⟩
  have HS := Lib.hid (And.intro s1 (((Spares.refl (fun k => k = r) w).setCell (p := ⟨r, 6, none⟩) rfl (.int .i64 (m.fail - 1))).setCell (p := ⟨r, 5, none⟩) rfl (.int .i64 (wrap64 (m.did + 1)))))
  clear h s0 s1
  go_enter Tryz.func72, Tryz.ntmps72
  go_wp2
  go_ret
  exact ⟨rfl, _, rfl, HS.out.1, HS.out.2⟩
set_option maxHeartbeats 1000000 in
theorem rthing_nz (w : World) (h : RfAt w r own m fv nv kv pv) (hc : m.cut < 0) (hf : m.fail = 0) (hb : m.cut ≤ 9223372036854775807 ∧ m.fail ≤ 9223372036854775807) : Calls Tryz.prog 72 #[.pointer (some ⟨r, 0, none⟩)] w fun e w' => e = .returned (.int .i64 m.thing.2) ∧ ∃ X, X = m.thing.1 ∧ RfAt w' r own X fv nv kv pv ∧ Spares (fun k => k = r) w w' := by
  have e : m.thing = (({ m with fail := -1 } : Rf), 81) := by
    unfold Rf.thing Rf.sooner Go.Proofs.YtdkpbphgaenlnaaGreat.sooner
    rw [if_neg (by omega), if_pos hf]
    simp [show ¬ (0 < m.cut) by omega, show ¬ (0 < m.fail) by omega]
  rw [e]
  clear e
  have c5 : w.cell? ⟨r, 5, none⟩ = some (.int .i64 m.did) := h.cell 5
  have c6 : w.cell? ⟨r, 6, none⟩ = some (.int .i64 m.fail) := h.cell 6
  have c7 : w.cell? ⟨r, 7, none⟩ = some (.int .i64 m.cut) := h.cell 7
  have c8 : w.cell? ⟨r, 8, none⟩ = some (.bool m.down) := h.cell 8
  have f5 := h.top.free 5
  have f6 := h.top.free 6
  have f7 := h.top.free 7
  have f8 := h.top.free 8
  have d1 : (m.cut == 0) = false := by rw [beq_eq_false_iff_ne]; omega
  rw [hf] at c6
  have s0 := h.set (m' := { m with fail := -1 }) 6 (.int .i64 (-1)) rfl ⟨rfl, rfl⟩ ⟨rfl, rfl⟩ ⟨rfl, rfl⟩ ⟨rfl, rfl⟩
  have HS := Lib.hid (And.intro s0 ((Spares.refl (fun k => k = r) w).setCell (p := ⟨r, 6, none⟩) rfl (.int .i64 (-1))))
  clear h s0
  go_enter Tryz.func72, Tryz.ntmps72
  go_wp2
  go_ret
  exact ⟨rfl, _, rfl, HS.out.1, HS.out.2⟩
set_option maxHeartbeats 1000000 in
theorem rthing_nn (w : World) (h : RfAt w r own m fv nv kv pv) (hc : m.cut < 0) (hf : m.fail < 0) (hb : m.cut ≤ 9223372036854775807 ∧ m.fail ≤ 9223372036854775807) : Calls Tryz.prog 72 #[.pointer (some ⟨r, 0, none⟩)] w fun e w' => e = .returned (.int .i64 m.thing.2) ∧ ∃ X, X = m.thing.1 ∧ RfAt w' r own X fv nv kv pv ∧ Spares (fun k => k = r) w w' := by
  have e : m.thing = (({ m with did := wrap64 (m.did + 1) } : Rf), 0) := by
    unfold Rf.thing Rf.sooner Go.Proofs.YtdkpbphgaenlnaaGreat.sooner
    rw [if_neg (by omega), if_neg (by omega)]
    simp [show ¬ (0 < m.cut) by omega, show ¬ (0 < m.fail) by omega]
  rw [e]
  clear e
  have c5 : w.cell? ⟨r, 5, none⟩ = some (.int .i64 m.did) := h.cell 5
  have c6 : w.cell? ⟨r, 6, none⟩ = some (.int .i64 m.fail) := h.cell 6
  have c7 : w.cell? ⟨r, 7, none⟩ = some (.int .i64 m.cut) := h.cell 7
  have c8 : w.cell? ⟨r, 8, none⟩ = some (.bool m.down) := h.cell 8
  have f5 := h.top.free 5
  have f6 := h.top.free 6
  have f7 := h.top.free 7
  have f8 := h.top.free 8
  have d1 : (m.cut == 0) = false := by rw [beq_eq_false_iff_ne]; omega
  have d2 : (m.fail == 0) = false := by rw [beq_eq_false_iff_ne]; omega
  have s0 := h.set (m' := { m with did := wrap64 (m.did + 1) }) 5 (.int .i64 (wrap64 (m.did + 1))) rfl ⟨rfl, rfl⟩ ⟨rfl, rfl⟩ ⟨rfl, rfl⟩ ⟨rfl, rfl⟩
  have HS := Lib.hid (And.intro s0 ((Spares.refl (fun k => k = r) w).setCell (p := ⟨r, 5, none⟩) rfl (.int .i64 (wrap64 (m.did + 1)))))
  clear h s0
  go_enter Tryz.func72, Tryz.ntmps72
  go_wp2
  go_ret
  exact ⟨rfl, _, rfl, HS.out.1, HS.out.2⟩
set_option maxHeartbeats 1000000 in
theorem rthing_zp (w : World) (h : RfAt w r own m fv nv kv pv) (hc : m.cut = 0) (hf : 0 < m.fail) (hb : m.cut ≤ 9223372036854775807 ∧ m.fail ≤ 9223372036854775807) : Calls Tryz.prog 72 #[.pointer (some ⟨r, 0, none⟩)] w fun e w' => e = .returned (.int .i64 m.thing.2) ∧ ∃ X, X = m.thing.1 ∧ RfAt w' r own X fv nv kv pv ∧ Spares (fun k => k = r) w w' := by
  have e : m.thing = (({ m with fail := m.fail - 1, down := true, cut := -1 } : Rf), 82) := by
    unfold Rf.thing Rf.sooner Go.Proofs.YtdkpbphgaenlnaaGreat.sooner
    rw [if_pos hc]
    simp [show ¬ (0 < m.cut) by omega, hf]
  rw [e]
  clear e
  have c5 : w.cell? ⟨r, 5, none⟩ = some (.int .i64 m.did) := h.cell 5
  have c6 : w.cell? ⟨r, 6, none⟩ = some (.int .i64 m.fail) := h.cell 6
  have c7 : w.cell? ⟨r, 7, none⟩ = some (.int .i64 m.cut) := h.cell 7
  have c8 : w.cell? ⟨r, 8, none⟩ = some (.bool m.down) := h.cell 8
  have f5 := h.top.free 5
  have f6 := h.top.free 6
  have f7 := h.top.free 7
  have f8 := h.top.free 8
  have e2 : wrap64 (m.fail - 1) = m.fail - 1 := IntWalk.wrap64_in _ (by omega)
  have e2' : IntKind.i64.wrap (m.fail - 1) = m.fail - 1 := IntWalk.i64_in _ (by omega)
  rw [hc] at c7
  have d2 : (m.fail == 0) = false := by rw [beq_eq_false_iff_ne]; omega
  have s0 := h.set (m' := { m with fail := m.fail - 1 }) 6 (.int .i64 (m.fail - 1)) rfl ⟨rfl, rfl⟩ ⟨rfl, rfl⟩ ⟨rfl, rfl⟩ ⟨rfl, rfl⟩
  have s1 := s0.set (m' := { m with fail := m.fail - 1, down := true }) 8 (.bool true) rfl ⟨rfl, rfl⟩ ⟨rfl, rfl⟩ ⟨rfl, rfl⟩ ⟨rfl, rfl⟩
  have s2 := s1.set (m' := { m with fail := m.fail - 1, down := true, cut := -1 }) 7 (.int .i64 (-1)) rfl ⟨rfl, rfl⟩ ⟨rfl, rfl⟩ ⟨rfl, rfl⟩ ⟨rfl, rfl⟩
  have HS := Lib.hid (And.intro s2 ((((Spares.refl (fun k => k = r) w).setCell (p := ⟨r, 6, none⟩) rfl (.int .i64 (m.fail - 1))).setCell (p := ⟨r, 8, none⟩) rfl (.bool true)).setCell (p := ⟨r, 7, none⟩) rfl (.int .i64 (-1))))
  clear h s0 s1 s2
  go_enter Tryz.func72, Tryz.ntmps72
  go_wp2
  go_ret
  exact ⟨rfl, _, rfl, HS.out.1, HS.out.2⟩
set_option maxHeartbeats 1000000 in
theorem rthing_zz (w : World) (h : RfAt w r own m fv nv kv pv) (hc : m.cut = 0) (hf : m.fail = 0) (hb : m.cut ≤ 9223372036854775807 ∧ m.fail ≤ 9223372036854775807) : Calls Tryz.prog 72 #[.pointer (some ⟨r, 0, none⟩)] w fun e w' => e = .returned (.int .i64 m.thing.2) ∧ ∃ X, X = m.thing.1 ∧ RfAt w' r own X fv nv kv pv ∧ Spares (fun k => k = r) w w' := by
  have e : m.thing = (({ m with down := true, cut := -1 } : Rf), 82) := by
    unfold Rf.thing Rf.sooner Go.Proofs.YtdkpbphgaenlnaaGreat.sooner
    rw [if_pos hc]
    simp [show ¬ (0 < m.cut) by omega, show ¬ (0 < m.fail) by omega]
  rw [e]
  clear e
  have c5 : w.cell? ⟨r, 5, none⟩ = some (.int .i64 m.did) := h.cell 5
  have c6 : w.cell? ⟨r, 6, none⟩ = some (.int .i64 m.fail) := h.cell 6
  have c7 : w.cell? ⟨r, 7, none⟩ = some (.int .i64 m.cut) := h.cell 7
  have c8 : w.cell? ⟨r, 8, none⟩ = some (.bool m.down) := h.cell 8
  have f5 := h.top.free 5
  have f6 := h.top.free 6
  have f7 := h.top.free 7
  have f8 := h.top.free 8
  rw [hc] at c7
  rw [hf] at c6
  have s0 := h.set (m' := { m with down := true }) 8 (.bool true) rfl ⟨rfl, rfl⟩ ⟨rfl, rfl⟩ ⟨rfl, rfl⟩ ⟨rfl, rfl⟩
  have s1 := s0.set (m' := { m with down := true, cut := -1 }) 7 (.int .i64 (-1)) rfl ⟨rfl, rfl⟩ ⟨rfl, rfl⟩ ⟨rfl, rfl⟩ ⟨rfl, rfl⟩
  have HS := Lib.hid (And.intro s1 (((Spares.refl (fun k => k = r) w).setCell (p := ⟨r, 8, none⟩) rfl (.bool true)).setCell (p := ⟨r, 7, none⟩) rfl (.int .i64 (-1))))
  clear h s0 s1
  go_enter Tryz.func72, Tryz.ntmps72
  go_wp2
  go_ret
  exact ⟨rfl, _, rfl, HS.out.1, HS.out.2⟩
set_option maxHeartbeats 1000000 in
theorem rthing_zn (w : World) (h : RfAt w r own m fv nv kv pv) (hc : m.cut = 0) (hf : m.fail < 0) (hb : m.cut ≤ 9223372036854775807 ∧ m.fail ≤ 9223372036854775807) : Calls Tryz.prog 72 #[.pointer (some ⟨r, 0, none⟩)] w fun e w' => e = .returned (.int .i64 m.thing.2) ∧ ∃ X, X = m.thing.1 ∧ RfAt w' r own X fv nv kv pv ∧ Spares (fun k => k = r) w w' := by
  have e : m.thing = (({ m with down := true, cut := -1 } : Rf), 82) := by
    unfold Rf.thing Rf.sooner Go.Proofs.YtdkpbphgaenlnaaGreat.sooner
    rw [if_pos hc]
    simp [show ¬ (0 < m.cut) by omega, show ¬ (0 < m.fail) by omega]
  rw [e]
  clear e
  have c5 : w.cell? ⟨r, 5, none⟩ = some (.int .i64 m.did) := h.cell 5
  have c6 : w.cell? ⟨r, 6, none⟩ = some (.int .i64 m.fail) := h.cell 6
  have c7 : w.cell? ⟨r, 7, none⟩ = some (.int .i64 m.cut) := h.cell 7
  have c8 : w.cell? ⟨r, 8, none⟩ = some (.bool m.down) := h.cell 8
  have f5 := h.top.free 5
  have f6 := h.top.free 6
  have f7 := h.top.free 7
  have f8 := h.top.free 8
  rw [hc] at c7
  have d2 : (m.fail == 0) = false := by rw [beq_eq_false_iff_ne]; omega
  have s0 := h.set (m' := { m with down := true }) 8 (.bool true) rfl ⟨rfl, rfl⟩ ⟨rfl, rfl⟩ ⟨rfl, rfl⟩ ⟨rfl, rfl⟩
  have s1 := s0.set (m' := { m with down := true, cut := -1 }) 7 (.int .i64 (-1)) rfl ⟨rfl, rfl⟩ ⟨rfl, rfl⟩ ⟨rfl, rfl⟩ ⟨rfl, rfl⟩
  have HS := Lib.hid (And.intro s1 (((Spares.refl (fun k => k = r) w).setCell (p := ⟨r, 8, none⟩) rfl (.bool true)).setCell (p := ⟨r, 7, none⟩) rfl (.int .i64 (-1))))
  clear h s0 s1
  go_enter Tryz.func72, Tryz.ntmps72
  go_wp2
  go_ret
  exact ⟨rfl, _, rfl, HS.out.1, HS.out.2⟩
theorem rthing_any (w : World) (h : RfAt w r own m fv nv kv pv) (hb : m.cut ≤ 9223372036854775807 ∧ m.fail ≤ 9223372036854775807) : Calls Tryz.prog 72 #[.pointer (some ⟨r, 0, none⟩)] w fun e w' => e = .returned (.int .i64 m.thing.2) ∧ ∃ X, X = m.thing.1 ∧ RfAt w' r own X fv nv kv pv ∧ Spares (fun k => k = r) w w' := by
  rcases Int.lt_trichotomy m.cut 0 with hc | hc | hc
  · rcases Int.lt_trichotomy m.fail 0 with hf | hf | hf
    · exact rthing_nn w h hc hf hb
    · exact rthing_nz w h hc hf hb
    · exact rthing_np w h hc hf hb
  · rcases Int.lt_trichotomy m.fail 0 with hf | hf | hf
    · exact rthing_zn w h hc hf hb
    · exact rthing_zz w h hc hf hb
    · exact rthing_zp w h hc hf hb
  · rcases Int.lt_trichotomy m.fail 0 with hf | hf | hf
    · exact rthing_pn w h hc hf hb
    · exact rthing_pz w h hc hf hb
    · exact rthing_pp w h hc hf hb
theorem rright_any (n : Nm) (w : World) : Calls Tryz.prog 71 #[.string ⟨n.toArray⟩] w fun e w' => e = .returned (.bool (right n)) ∧ w = w' := by
  unfold right
  generalize hk : n.length = k
  have hs : (⟨n.toArray⟩ : ByteArray).size = k := by simpa [ByteArray.size] using hk
  clear hk
  generalize (⟨n.toArray⟩ : ByteArray) = s at *
  by_cases h1 : 1 ≤ k
  · have d1 : decide ((k : Int) ≥ 1) = true := by simp; omega
    by_cases h2 : k ≤ 16
    · have d2 : decide ((k : Int) ≤ 16) = true := by simp; omega
      rw [decide_eq_true h1, decide_eq_true h2]
      clear h1 h2
      go_enter Tryz.func71, Tryz.ntmps71
      go_wp2
      go_ret
      exact ⟨rfl, rfl⟩
    · have d2 : decide ((k : Int) ≤ 16) = false := by simp; omega
      rw [decide_eq_true h1, decide_eq_false h2]
      clear h1 h2
      go_enter Tryz.func71, Tryz.ntmps71
      go_wp2
      go_ret
      exact ⟨rfl, rfl⟩
  · have d1 : decide ((k : Int) ≥ 1) = false := by simp; omega
    rw [decide_eq_false h1]
    clear h1
    go_enter Tryz.func71, Tryz.ntmps71
    go_wp2
    go_ret
    exact ⟨rfl, rfl⟩
end
end Go.Proofs.YtdkpbphgaenlnaaGreat

/-
  What is asked of the document's disk.
-/
namespace Go.Proofs.YtdkpbphgaenlnaaGreat
open Go.RowKit
set_option linter.unusedVariables false
set_option linter.unusedSimpArgs false
attribute [local irreducible] Go.wpQuiet

/-- What is small. -/
structure RfFit (m : Rf) : Prop where
  nums : (-1 ≤ m.cut ∧ m.cut ≤ 9223372036854775807) ∧ -1 ≤ m.fail ∧ m.fail ≤ 9223372036854775807
  files : m.files.length ≤ 100000
  names : m.names.length ≤ 100000
  kept : m.kept.length ≤ 100000
  pend : m.pend.length ≤ 100000
  idx : ∀ p ∈ m.names, p.2 < m.files.length
  bytes : ∀ f ∈ m.files, f.bytes.length ≤ 100000 ∧ f.kept ≤ f.bytes.length
section
variable {w w' : World} {r : Nat} {own : Nat → Prop} {m m' : Rf} {fv nv kv pv : Value}
theorem getD_of {l : List Fl} {i : Nat} {v : Fl} (h : l[i]? = some v) : l.getD i ⟨[], 0⟩ = v := by rw [List.getD_eq_getElem?_getD, h]; rfl
/-- A name that is found: where it stands, and its file. -/
theorem RfAt.found (h : RfAt w r own m fv nv kv pv) (hF : RfFit m) {i : Nat} {n : Nm} {f : Nat} (hi : m.names[i]? = some (n, f)) :
    ∃ gn cn gf cf v, nv = .slice (some ⟨gn, 0, none⟩) m.names.length cn ∧ fv = .slice (some ⟨gf, 0, none⟩) m.files.length cf ∧ m.files[f]? = some v ∧ i < m.names.length ∧ f < m.files.length ∧
      ∀ w', Grows w w' → w'.cell? ⟨r, 1, none⟩ = some fv ∧ w'.cell? ⟨r, 2, none⟩ = some nv ∧ w'.cell? ⟨gn, i * 2 + 1, none⟩ = some (.int .i64 (f : Int)) ∧ w'.cell? ⟨gf, f * 2, none⟩ = some (.string ⟨v.bytes.toArray⟩) ∧ w'.cell? ⟨gf, f * 2 + 1, none⟩ = some (.int .i64 (v.kept : Int)) := by
  have hil : i < m.names.length := (List.getElem?_eq_some_iff.1 hi).1
  have hfl : f < m.files.length := hF.idx (n, f) (List.mem_of_getElem? hi)
  obtain ⟨A, cn, hA, h1⟩ := h.namesRw
  obtain ⟨B, cf, hB, h2⟩ := h.filesRw
  obtain ⟨gn, rfl, hgn, c1⟩ := h1.spot i _ hi
  obtain ⟨gf, rfl, hgf, c2⟩ := h2.spot f _ (List.getElem?_eq_getElem hfl)
  refine ⟨gn, cn, gf, cf, m.files[f], hA, hB, List.getElem?_eq_getElem hfl, hil, hfl, fun w' hg => ⟨?_, ?_, ?_, ?_, ?_⟩⟩
  · rw [hg.cell (show (⟨r, 1, none⟩ : Addr).block < w.heap.size from h.top.lt)]; exact h.cell 1
  · rw [hg.cell (show (⟨r, 2, none⟩ : Addr).block < w.heap.size from h.top.lt)]; exact h.cell 2
  · rw [hg.cell (show (⟨gn, i * 2 + 1, none⟩ : Addr).block < w.heap.size from hgn)]; exact c1 1 (by omega)
  · rw [hg.cell (show (⟨gf, f * 2, none⟩ : Addr).block < w.heap.size from hgf)]; exact c2 0 (by omega)
  · rw [hg.cell (show (⟨gf, f * 2 + 1, none⟩ : Addr).block < w.heap.size from hgf)]; exact c2 1 (by omega)

set_option maxHeartbeats 4000000 in
set_option maxRecDepth 100000 in
theorem rsize_any (w : World) (n : Nm) (h : RfAt w r own m fv nv kv pv) (hF : RfFit m) : Calls Tryz.prog 51 #[.pointer (some ⟨r, 0, none⟩), .string ⟨n.toArray⟩] w fun e w' =>
    e = .returned (.tuple #[.int .i64 (m.size n).1, .bool (m.size n).2]) ∧ Grows w w' := by
  obtain ⟨A, c, hA, hrw⟩ := h.namesRw
  have c2 : w.cell? ⟨r, 2, none⟩ = some (.slice A m.names.length c) := by rw [← hA]; exact h.cell 2
  have HFI := Lib.hid (rfind_any w (c := c) n hrw (by have := hF.names; omega))
  have H := Lib.hid h
  rcases fidx_find (n := n) (l := m.names) with ⟨hf, hx⟩ | ⟨i, f, hf, hx, hi⟩
  · have hs : m.size n = (0, false) := by unfold Rf.size; rw [hf]
    rw [hs]
    rw [hx] at HFI
    clear h hA hrw hf hx hs hF
    go_enter Tryz.func51, Tryz.ntmps51
    go_wp2_with (fail)
    refine HFI.out.mono ?_
    rintro e w1 ⟨rfl, rfl⟩
    go_wp2_with (fail)
    go_ret2
    exact ⟨rfl, Grows.refl _⟩
  · obtain ⟨gn, cn, gf, cf, v, hn, hfv, hv, hil, hfl, hc⟩ := h.found hF hi
    have hs : m.size n = (((v.bytes.length : Nat) : Int), true) := by unfold Rf.size Rf.len; rw [hf]; dsimp only; rw [getD_of hv]
    rw [hs]
    rw [hx] at HFI
    have HC := Lib.hid hc
    rw [hA] at hn
    injection hn with hn1 _ hn2
    subst hn1 hn2
    rw [hfv, hA] at HC
    have hiI : (i : Int) < (m.names.length : Int) := by omega
    have hfI : (f : Int) < (m.files.length : Int) := by omega
    have hi0 : ¬ ((i : Int) < 0) := by omega
    have hi1 : (0 : Int) ≤ (i : Int) := by omega
    have hf0 : (0 : Int) ≤ (f : Int) := by omega
    generalize m.names.length = nl at *
    generalize m.files.length = fl at *
    obtain ⟨s, hsb⟩ : ∃ s : ByteArray, (⟨v.bytes.toArray⟩ : ByteArray) = s := ⟨_, rfl⟩
    have hss : s.size = v.bytes.length := by rw [← hsb]; simp [ByteArray.size]
    rw [hsb] at HC
    generalize v.bytes.length = vl at *
    clear h hA hrw hf hx hs hF hi hv hc hfv hil hfl hsb
    go_enter Tryz.func51, Tryz.ntmps51
    go_wp2_with (fail)
    refine HFI.out.mono ?_
    rintro e w1 ⟨rfl, rfl⟩
    go_wp2_with (fail)
    refine q_region mixed (by kernel_rfl) ?_
    iterate 18
      (refine q_op' (v := ?_) (a' := ?_) (by rfl) ?_ ?_ ?_
       rotate_left 2
       · intro w' hC
         obtain ⟨z1, z2, z3, z4, z5⟩ := HC.out w' hC
         clear hC
         go_simp
         try with_reducible rfl
       · simp only [Act.put, List.setIfInBounds_toArray, List.set_cons_zero, List.set_cons_succ]
         try rfl)
    refine wpQuiet_nil ?_
    intro w5 hC
    have HCw5 := Lib.hid hC
    clear hC
    go_wp2_with (fail)
    go_ret2
    exact ⟨rfl, HCw5.out⟩

set_option maxHeartbeats 4000000 in
set_option maxRecDepth 100000 in
theorem rused_any (w : World) (h : RfAt w r own m fv nv kv pv) (hF : RfFit m) : Calls Tryz.prog 28 #[.pointer (some ⟨r, 0, none⟩)] w fun e w' => e = .returned (.int .i64 (m.used : Nat)) ∧ Grows w w' := by
  obtain ⟨A, c, hA, hrw⟩ := h.namesRw
  have HA := Lib.hid (And.intro hA hrw.len)
  have H := Lib.hid h
  have HF := Lib.hid hF
  have hnl := hF.names
  clear h hF hrw hA
  have hub : ∀ j, ((m.names.take j).map fun p => m.len p.2).sum ≤ j * 100000 := fun j => by
    have h1 := S_le (ln := m.len) (K := 100000) (l := m.names.take j) fun i hi => by
      obtain ⟨p, hp, rfl⟩ := List.mem_map.1 hi
      have h2 := HF.out.idx p (List.mem_of_mem_take hp)
      unfold Rf.len
      rw [List.getD_eq_getElem?_getD, List.getElem?_eq_getElem h2]
      exact (HF.out.bytes _ (List.getElem_mem h2)).1
    have h3 : (m.names.take j).length * 100000 ≤ j * 100000 := Nat.mul_le_mul_right _ (by rw [List.length_take]; omega)
    exact Nat.le_trans h1 h3
  have HUB := Lib.hid hub
  clear hub
  obtain ⟨nl, hnle⟩ : ∃ nl, m.names.length = nl := ⟨_, rfl⟩
  have HNL := Lib.hid hnle
  rw [hnle] at hnl
  clear hnle
  go_enter Tryz.func28, Tryz.ntmps28
  go_wp2_with (fail)
  go_loopw [3, 4] (fun vs vi wr => ∃ (j s : Nat), j ≤ nl ∧ s ≤ j * 100000 ∧ vs = .int .i64 (s : Nat) ∧ vi = .int .i64 (j : Nat) ∧ Hid (s = ((m.names.take j).map fun p => m.len p.2).sum) ∧ Hid (Grows w wr)) (fun _ i _ => nl - (intOf i).toNat)
  case atStart => exact ⟨0, 0, by omega, by omega, rfl, rfl, Lib.hid rfl, Lib.hid (Grows.refl _)⟩
  case round =>
    obtain ⟨j, s, hj, hsj, rfl, rfl, HS, HG⟩ := hrel
    have c2 : wr.cell? ⟨r, 2, none⟩ = some (.slice A nl c) := by
      rw [HG.out.cell (show (⟨r, 2, none⟩ : Addr).block < w.heap.size from H.out.top.lt), ← HNL.out, ← HA.out.1]; exact H.out.cell 2
    by_cases hlt : j < nl
    · obtain ⟨p, hp⟩ : ∃ p, m.names[j]? = some p := ⟨_, List.getElem?_eq_getElem (by rw [HNL.out]; exact hlt)⟩
      obtain ⟨gn, cn, gf, cf, v, hn, hfv, hv, hil, hfl, hc⟩ := H.out.found HF.out (n := p.1) (f := p.2) hp
      have HC := Lib.hid (fun w' hg => hc w' (HG.out.trans hg))
      rw [HA.out.1, HNL.out] at hn
      injection hn with hn1 _ hn2
      subst hn1 hn2
      rw [hfv, HA.out.1, HNL.out] at HC
      have hjI : (j : Int) < (nl : Int) := by omega
      have hj0 : (0 : Int) ≤ (j : Int) := by omega
      have hfI : (p.2 : Int) < (m.files.length : Int) := by omega
      have hf0 : (0 : Int) ≤ (p.2 : Int) := by omega
      obtain ⟨sb, hsb⟩ : ∃ s : ByteArray, (⟨v.bytes.toArray⟩ : ByteArray) = s := ⟨_, rfl⟩
      obtain ⟨vl, hvl⟩ : ∃ vl, v.bytes.length = vl := ⟨_, rfl⟩
      have hss : sb.size = vl := by rw [← hsb, ← hvl]; simp [ByteArray.size]
      have hlen : m.len p.2 = vl := by unfold Rf.len; rw [getD_of hv, hvl]
      have hvb : vl ≤ 100000 := by rw [← hvl]; exact (HF.out.bytes v (List.mem_of_getElem? hv)).1
      rw [hsb] at HC
      generalize m.files.length = fl at *
      obtain ⟨pf, hpf⟩ : ∃ f, p.2 = f := ⟨_, rfl⟩
      rw [hpf] at HC hfI hf0
      have HN := Lib.hid (show s + vl = ((m.names.take (j + 1)).map fun p => m.len p.2).sum by
        rw [List.take_add_one, hp, List.map_append, List.sum_append, ← HS.out]
        simp [hlen])
      have hsv : IntKind.i64.wrap ((s : Int) + (vl : Int)) = ((s + vl : Nat) : Int) := by rw [IntWalk.i64_in _ (by omega)]; omega
      have hwj : IntKind.i64.wrap ((j : Int) + 1) = (j : Int) + 1 := IntWalk.i64_in _ (by omega)
      have HSB := Lib.hid (show s + vl ≤ (j + 1) * 100000 by omega)
      clear hp hfv hv hil hfl hc hsb hvl hlen hpf hvb
      go_wp2_with (fail)
      refine q_region mixed (by kernel_rfl) ?_
      iterate 19
        (refine q_op' (v := ?_) (a' := ?_) (by rfl) ?_ ?_ ?_
         rotate_left 2
         · intro w' hC
           obtain ⟨z1, z2, z3, z4, z5⟩ := HC.out w' hC
           clear hC
           go_simp
           try with_reducible rfl
         · simp only [Act.put, List.setIfInBounds_toArray, List.set_cons_zero, List.set_cons_succ]
           try rfl)
      refine wpQuiet_nil ?_
      intro w5 hC
      have HCw5 := Lib.hid hC
      clear hC
      go_wp2_with (fail)
      exact ⟨⟨j + 1, s + vl, hlt, HSB.out, rfl, rfl, HN, Lib.hid (HG.out.trans HCw5.out)⟩, by simp only [intOf]; omega⟩
    · obtain rfl : j = nl := by omega
      have HE := Lib.hid (show s = m.used by
        have h1 := HS.out
        rw [List.take_of_length_le (by rw [HNL.out]; exact Nat.le_refl _)] at h1
        exact h1)
      go_wp2_with (fail)
      go_ret
      rw [HE.out]
      exact ⟨rfl, HG.out⟩
end
end Go.Proofs.YtdkpbphgaenlnaaGreat

/-
  The document's disk: its names, a part of a file, a new one.
-/
namespace Go.Proofs.YtdkpbphgaenlnaaGreat
open Go.RowKit
set_option linter.unusedVariables false
set_option linter.unusedSimpArgs false
attribute [local irreducible] Go.wpQuiet
theorem infoStr8 : (Tryz.prog.info? 9).map (fun i => (i.zero, i.size, i.bytes)) = some (some (.string ⟨#[]⟩), 1, 16) := by kernel_rfl
theorem bytes_size8 (L : List UInt8) : (⟨L.toArray⟩ : ByteArray).size = L.length := by simp [ByteArray.size]
theorem run_bytes8 (w : World) (L : List UInt8) : ∃ c w', (convert 9 55 (.string ⟨L.toArray⟩)).run Tryz.prog w = .ok (.slice (some ⟨w.heap.size, 0, none⟩) L.length c) w' ∧ Sl w' (some ⟨w.heap.size, 0, none⟩) L.length c L ∧ Grows w w' := by
  refine ⟨_, _, by rw [run_bytes_of_string w 9 55 5 ⟨L.toArray⟩ Tryz.underlying9 Tryz.underlying55 Tryz.underlying5, bytes_size8], ?_, ?_⟩
  · refine ⟨?_, ?_, fun h => by cases h⟩
    · refine ⟨by simp, fun k v hk => ⟨_, rfl, by simp, ?_⟩⟩
      have hkl : k < L.length := by
        have := (List.getElem?_eq_some_iff.1 hk).1
        simpa using this
      rw [show (⟨w.heap.size, 0, none⟩ : Addr).add k = ⟨w.heap.size, k, none⟩ by unfold Addr.add; split <;> simp_all]
      rw [cell_of_row _ w.heap.size k _ _ _ (World.alloc_heap_new w.drew _)]
      unfold bytesRow
      rw [Array.getElem?_append_left (by simp [bytes_size8]; exact hkl)]
      rw [← hk]
      simp
      rfl
    · exact bytes_size8 L ▸ grownCap_ge w _ _ _
  · exact Grows.trans (grows_drew w) (grows_alloc _ _)
theorem ext_part (D : List UInt8) (x k : Nat) (h : x + k ≤ D.length) : (⟨D.toArray⟩ : ByteArray).extract x (x + k) = ⟨((D.drop x).take k).toArray⟩ := by
  apply ByteArray.ext
  simp only [ByteArray.data_extract, List.extract_toArray]
  rw [List.extract_eq_take_drop]
  simp
def RNamesTo (w : World) (ns : List Nm) (e : Ending) (w' : World) : Prop := ∃ A c, e = .returned (.slice A ns.length c) ∧ Row w' w'.heap.size A ns.length (ns.map strB) ∧ Grows w w'
section
variable {w w' : World} {r : Nat} {own : Nat → Prop} {m m' : Rf} {fv nv kv pv : Value}
set_option maxHeartbeats 4000000 in
set_option maxRecDepth 100000 in
theorem rlist_any (w : World) (h : RfAt w r own m fv nv kv pv) (hF : RfFit m) : Calls Tryz.prog 26 #[.pointer (some ⟨r, 0, none⟩)] w fun e w' => RNamesTo w (m.names.map (·.1)) e w' := by
  obtain ⟨i1, hi1, hz1, hy1, hb1⟩ := info_parts infoStr8
  have HI1 := Lib.hid (And.intro hi1 (And.intro hz1 (And.intro hy1 hb1)))
  obtain ⟨A, c, hA, hrw⟩ := h.namesRw
  have HA := Lib.hid (And.intro hA hrw)
  have H := Lib.hid h
  have hnl := hF.names
  obtain ⟨nl, hnle⟩ : ∃ nl, m.names.length = nl := ⟨_, rfl⟩
  have HNL := Lib.hid hnle
  rw [hnle] at hnl
  clear h hF hrw hA hnle hi1 hz1 hy1 hb1
  go_enter Tryz.func26, Tryz.ntmps26
  go_wp2_with (fail)
  go_loopw [3, 4] (fun vs vi wr => ∃ (j : Nat) (L : Option Addr) (lc : Nat), j ≤ nl ∧ vs = .slice L j lc ∧ vi = .int .i64 (j : Nat) ∧ Hid (wr.ownsRow w.heap.size 9 1 (.slice L j lc) j (((m.names.take j).map (·.1)).map strB)) ∧ Hid (Grows w wr)) (fun _ i _ => nl - (intOf i).toNat)
  case atStart => exact ⟨0, none, 0, by omega, rfl, rfl, Lib.hid ⟨rfl, .inl ⟨rfl, rfl⟩⟩, Lib.hid (Grows.refl _)⟩
  case round =>
    obtain ⟨j, L, lc, hj, rfl, rfl, HR, HG⟩ := hrel
    have c2 : wr.cell? ⟨r, 2, none⟩ = some (.slice A nl c) := by
      rw [HG.out.cell (show (⟨r, 2, none⟩ : Addr).block < w.heap.size from H.out.top.lt), ← HNL.out, ← HA.out.1]; exact H.out.cell 2
    by_cases hlt : j < nl
    · obtain ⟨p, hp⟩ : ∃ p, m.names[j]? = some p := ⟨_, List.getElem?_eq_getElem (by rw [HNL.out]; exact hlt)⟩
      obtain ⟨g, hA2, hg, hc⟩ := HA.out.2.spot j p hp
      subst hA2
      have c0 : wr.cell? { block := g, off := j * 2 } = some (.string ⟨p.1.toArray⟩) := by
        rw [HG.out.cell (show (⟨g, j * 2, none⟩ : Addr).block < w.heap.size from hg)]; exact hc 0 (by omega)
      have hjI : (j : Int) < (nl : Int) := by omega
      have hj0 : (0 : Int) ≤ (j : Int) := by omega
      have hwj : IntKind.i64.wrap ((j : Int) + 1) = (j : Int) + 1 := IntWalk.i64_in _ (by omega)
      have HN := Lib.hid (show ((m.names.take j).map (·.1)).map strB ++ [.string ⟨p.1.toArray⟩] = ((m.names.take (j + 1)).map (·.1)).map strB by
        rw [List.take_add_one, hp, List.map_append, List.map_append]
        rfl)
      have HR2 := Lib.hid (owned_grow HR.out (grows_alloc wr (.cells #[.string ⟨p.1.toArray⟩] 9)))
      have HLT := Lib.hid hlt
      clear hp hc
      go_wp2_with (first
        | (at_builtin
           refine list_append_row rfl (.tmp 14) (.tmp 23) 47 rfl Tryz.underlying47 HI1.out.1 HI1.out.2.1 HI1.out.2.2.1 HI1.out.2.2.2 rfl rfl HR2.out rfl (row_one _ _ _) (fun h => by cases h) (by simp [Value.oneCell']) (j + 1) rfl _ HN.out (by unfold maxLen; have := HLT.out; omega) (by have := HLT.out; omega) (Nat.le_trans HG.out.size (le_alloc _ _)) ?_
           intro L2 lc2 w5 hr5 _ hg5 hat5
           have HR5 := Lib.hid hr5
           have HG5 := Lib.hid (show Grows w w5 from Below.grown (Grows.trans HG.out (grows_alloc wr (.cells #[.string ⟨p.1.toArray⟩] 9))) hg5 (Nat.le_trans HG.out.size (le_alloc _ _)) fun k hk => (HR2.out.lt k hk).1)
           clear hr5 hg5 hat5))
      exact ⟨⟨j + 1, L2, lc2, HLT.out, rfl, rfl, HR5, HG5⟩, by simp only [intOf]; have := HLT.out; omega⟩
    · obtain rfl : j = nl := by omega
      have HE := Lib.hid (show ((m.names.take j).map (·.1)).map strB = (m.names.map (·.1)).map strB by rw [List.take_of_length_le (by rw [HNL.out]; exact Nat.le_refl _)])
      go_wp2_with (fail)
      go_ret
      have hr := HR.out
      rw [HE.out] at hr
      have hlm : (m.names.map (·.1)).length = j := by rw [List.length_map, HNL.out]
      unfold RNamesTo
      rw [hlm]
      exact ⟨_, _, rfl, Row.owned hr, HG.out⟩

/-- What Read hands back. -/
def RReadTo (w : World) (r : Option (List UInt8) × Int) (e : Ending) (w' : World) : Prop :=
  match r.1 with
  | none => e = .returned (.tuple #[.slice none 0 0, .int .i64 r.2]) ∧ Grows w w'
  | some bs => ∃ A c, e = .returned (.tuple #[.slice A bs.length c, .int .i64 r.2]) ∧ Sl w' A bs.length c bs ∧ Grows w w'
set_option maxHeartbeats 4000000 in
set_option maxRecDepth 100000 in
theorem rread_any (w : World) (n : Nm) (x k : Int) (h : RfAt w r own m fv nv kv pv) (hF : RfFit m) (hx : -9223372036854775808 ≤ x ∧ x ≤ 9223372036854775807) (hk : -9223372036854775808 ≤ k ∧ k ≤ 9223372036854775807) :
    Calls Tryz.prog 77 #[.pointer (some ⟨r, 0, none⟩), .string ⟨n.toArray⟩, .int .i64 x, .int .i64 k] w fun e w' => RReadTo w (m.read n x k) e w' := by
  have c8 : w.cell? ⟨r, 8, none⟩ = some (.bool m.down) := h.cell 8
  obtain ⟨A, c, hA, hrw⟩ := h.namesRw
  have c2 : w.cell? ⟨r, 2, none⟩ = some (.slice A m.names.length c) := by rw [← hA]; exact h.cell 2
  have HFI := Lib.hid (rfind_any w (c := c) n hrw (by have := hF.names; omega))
  unfold Rf.read
  cases hd : m.down with
  | true =>
    rw [hd] at c8
    rw [if_pos rfl]
    clear h hF hA hrw c2 HFI hd hx hk
    go_enter Tryz.func77, Tryz.ntmps77
    go_wp2
    go_ret2
    exact ⟨rfl, Grows.refl _⟩
  | false =>
  rw [hd] at c8
  rw [if_neg (by decide)]
  rcases fidx_find (n := n) (l := m.names) with ⟨hf, hx'⟩ | ⟨i, f, hf, hx', hi⟩
  · rw [hf]
    dsimp only
    rw [hx'] at HFI
    clear h hA hrw hf hx' hF hd hx hk
    go_enter Tryz.func77, Tryz.ntmps77
    go_wp2_with (fail)
    refine HFI.out.mono ?_
    rintro e w1 ⟨rfl, rfl⟩
    go_wp2_with (fail)
    go_ret2
    exact ⟨rfl, Grows.refl _⟩
  rw [hf]
  dsimp only
  obtain ⟨gn, cn, gf, cf, v, hn, hfv, hv, hil, hfl, hc⟩ := h.found hF hi
  rw [hx'] at HFI
  have HC := Lib.hid hc
  rw [hA] at hn
  injection hn with hn1 _ hn2
  subst hn1 hn2
  rw [hfv, hA] at HC
  have hvb := (hF.bytes v (List.mem_of_getElem? hv)).1
  have hml : m.len f = v.bytes.length := by unfold Rf.len; rw [getD_of hv]
  rw [hml, getD_of hv]
  have hiI : (i : Int) < (m.names.length : Int) := by omega
  have hfI : (f : Int) < (m.files.length : Int) := by omega
  have hi0 : ¬ ((i : Int) < 0) := by omega
  have hi1 : (0 : Int) ≤ (i : Int) := by omega
  have hf0 : (0 : Int) ≤ (f : Int) := by omega
  obtain ⟨bs, hbs⟩ : ∃ bs, v.bytes = bs := ⟨_, rfl⟩
  rw [hbs] at HC hvb ⊢
  obtain ⟨s, hsb⟩ : ∃ s : ByteArray, (⟨bs.toArray⟩ : ByteArray) = s := ⟨_, rfl⟩
  obtain ⟨vl, hvl⟩ : ∃ vl, bs.length = vl := ⟨_, rfl⟩
  have hss : s.size = vl := by rw [← hsb, ← hvl]; simp [ByteArray.size]
  rw [hsb] at HC
  rw [hvl] at hvb ⊢
  have HSB := Lib.hid (And.intro hsb hvl)
  generalize m.names.length = nl at *
  generalize m.files.length = fl at *
  have hsub : IntKind.i64.wrap ((vl : Int) - x) = (vl : Int) - x ∨ ¬ (0 ≤ x ∧ x ≤ vl) := by
    by_cases h : 0 ≤ x ∧ x ≤ vl
    · exact .inl (IntWalk.i64_in _ (by omega))
    · exact .inr h
  clear h hA hrw hf hx' hF hi hv hc hfv hil hfl hsb hd hml hbs hvl
  by_cases hb1 : x < 0
  · rw [if_pos (.inl hb1)]
    clear hsub
    go_enter Tryz.func77, Tryz.ntmps77
    go_wp2_with (fail)
    refine HFI.out.mono ?_
    rintro e w1 ⟨rfl, rfl⟩
    go_wp2_with (fail)
    refine q_region mixed (by kernel_rfl) ?_
    iterate 16
      (refine q_op' (v := ?_) (a' := ?_) (by rfl) ?_ ?_ ?_
       rotate_left 2
       · intro w' hC
         obtain ⟨z1, z2, z3, z4, z5⟩ := HC.out w' hC
         clear hC
         go_simp
         try with_reducible rfl
       · simp only [Act.put, List.setIfInBounds_toArray, List.set_cons_zero, List.set_cons_succ]
         try rfl)
    refine wpQuiet_nil ?_
    intro w5 hC
    have HCw5 := Lib.hid hC
    clear hC
    go_wp2_with (fail)
    go_ret2
    exact ⟨rfl, HCw5.out⟩
  by_cases hb2 : k < 0
  · rw [if_pos (.inr (.inl hb2))]
    clear hsub
    go_enter Tryz.func77, Tryz.ntmps77
    go_wp2_with (fail)
    refine HFI.out.mono ?_
    rintro e w1 ⟨rfl, rfl⟩
    go_wp2_with (fail)
    refine q_region mixed (by kernel_rfl) ?_
    iterate 16
      (refine q_op' (v := ?_) (a' := ?_) (by rfl) ?_ ?_ ?_
       rotate_left 2
       · intro w' hC
         obtain ⟨z1, z2, z3, z4, z5⟩ := HC.out w' hC
         clear hC
         go_simp
         try with_reducible rfl
       · simp only [Act.put, List.setIfInBounds_toArray, List.set_cons_zero, List.set_cons_succ]
         try rfl)
    refine wpQuiet_nil ?_
    intro w5 hC
    have HCw5 := Lib.hid hC
    clear hC
    go_wp2_with (fail)
    go_ret2
    exact ⟨rfl, HCw5.out⟩
  by_cases hb3 : (vl : Int) < x
  · rw [if_pos (.inr (.inr (.inl hb3)))]
    clear hsub
    go_enter Tryz.func77, Tryz.ntmps77
    go_wp2_with (fail)
    refine HFI.out.mono ?_
    rintro e w1 ⟨rfl, rfl⟩
    go_wp2_with (fail)
    refine q_region mixed (by kernel_rfl) ?_
    iterate 16
      (refine q_op' (v := ?_) (a' := ?_) (by rfl) ?_ ?_ ?_
       rotate_left 2
       · intro w' hC
         obtain ⟨z1, z2, z3, z4, z5⟩ := HC.out w' hC
         clear hC
         go_simp
         try with_reducible rfl
       · simp only [Act.put, List.setIfInBounds_toArray, List.set_cons_zero, List.set_cons_succ]
         try rfl)
    refine wpQuiet_nil ?_
    intro w5 hC
    have HCw5 := Lib.hid hC
    clear hC
    go_wp2_with (fail)
    go_ret2
    exact ⟨rfl, HCw5.out⟩
  have hsub2 : IntKind.i64.wrap ((vl : Int) - x) = (vl : Int) - x := hsub.resolve_right (by omega)
  clear hsub
  by_cases hb4 : (vl : Int) - x < k
  · rw [if_pos (.inr (.inr (.inr hb4)))]
    go_enter Tryz.func77, Tryz.ntmps77
    go_wp2_with (fail)
    refine HFI.out.mono ?_
    rintro e w1 ⟨rfl, rfl⟩
    go_wp2_with (fail)
    refine q_region mixed (by kernel_rfl) ?_
    iterate 16
      (refine q_op' (v := ?_) (a' := ?_) (by rfl) ?_ ?_ ?_
       rotate_left 2
       · intro w' hC
         obtain ⟨z1, z2, z3, z4, z5⟩ := HC.out w' hC
         clear hC
         go_simp
         try with_reducible rfl
       · simp only [Act.put, List.setIfInBounds_toArray, List.set_cons_zero, List.set_cons_succ]
         try rfl)
    refine wpQuiet_nil ?_
    intro w5 hC
    have HCw5 := Lib.hid hC
    clear hC
    go_wp2_with (fail)
    go_ret2
    exact ⟨rfl, HCw5.out⟩
  rw [if_neg (by omega)]
  obtain ⟨y, rfl⟩ := Int.eq_ofNat_of_zero_le (show 0 ≤ x by omega)
  obtain ⟨z, rfl⟩ := Int.eq_ofNat_of_zero_le (show 0 ≤ k by omega)
  have hyz : IntKind.i64.wrap ((y : Int) + (z : Int)) = (y : Int) + (z : Int) := IntWalk.i64_in _ (by omega)
  have hyv : (y : Int) + (z : Int) ≤ (vl : Int) := by omega
  have hyy : (y : Int) ≤ (y : Int) + (z : Int) := by omega
  have hy0 : (0 : Int) ≤ (y : Int) := by omega
  obtain ⟨L, hL⟩ : ∃ L, (bs.drop y).take z = L := ⟨_, rfl⟩
  have HLL := Lib.hid (show L.length = z by rw [← hL, List.length_take, List.length_drop, HSB.out.2]; omega)
  have HEX := Lib.hid (show s.extract y (y + z) = ⟨L.toArray⟩ by rw [← HSB.out.1, ← hL]; exact ext_part bs y z (by rw [HSB.out.2]; omega))
  rw [Int.toNat_natCast, Int.toNat_natCast, hL]
  clear hL
  go_enter Tryz.func77, Tryz.ntmps77
  go_wp2_with (fail)
  refine HFI.out.mono ?_
  rintro e w1 ⟨rfl, rfl⟩
  go_wp2_with (fail)
  refine q_region mixed (by kernel_rfl) ?_
  iterate 16
    (refine q_op' (v := ?_) (a' := ?_) (by rfl) ?_ ?_ ?_
     rotate_left 2
     · intro w' hC
       obtain ⟨z1, z2, z3, z4, z5⟩ := HC.out w' hC
       clear hC
       go_simp
       try with_reducible rfl
     · simp only [Act.put, List.setIfInBounds_toArray, List.set_cons_zero, List.set_cons_succ]
       try rfl)
  refine wpQuiet_nil ?_
  intro w5 hC
  have HCw5 := Lib.hid hC
  clear hC
  obtain ⟨cc, w6, hrun, hrow, hg6⟩ := run_bytes8 w5 L
  rw [← HEX.out, HLL.out] at hrun
  have HW6 := Lib.hid (And.intro hrow hg6)
  clear hrow hg6
  go_wp2_with (fail)
  go_ret2
  exact ⟨_, cc, by rw [HLL.out]; rfl, HW6.out.1, Grows.trans HCw5.out HW6.out.2⟩
end
end Go.Proofs.YtdkpbphgaenlnaaGreat

/-
  The document's names: one taken away, one put.
-/
namespace Go.Proofs.YtdkpbphgaenlnaaGreat
open Go.RowKit
set_option linter.unusedVariables false
set_option linter.unusedSimpArgs false
theorem infoEn : (Tryz.prog.info? 102).map (fun i => (i.zero, i.size, i.bytes)) = some (some (.agg #[.string ⟨#[]⟩, .int .i64 0]), 2, 24) := by kernel_rfl
theorem row_lit8 (w : World) (t : TypeId) (cs : Array Value) : Row (w.alloc (.cells cs t)) (w.alloc (.cells cs t)).heap.size (some ⟨w.heap.size, 0, none⟩) cs.size cs.toList :=
  ⟨by simp, fun k v hv => ⟨⟨w.heap.size, 0, none⟩, rfl, (Whole.made w t cs).lt, by
    rw [show (⟨w.heap.size, 0, none⟩ : Addr).add k = ⟨w.heap.size, k, none⟩ by unfold Addr.add; split <;> simp_all, (Whole.made w t cs).cell k]
    simpa using hv⟩⟩
def REnTo (w : World) (l : Dir) (e : Ending) (w' : World) : Prop := ∃ v, e = .returned v ∧ w'.ownsRow w.heap.size 102 2 v l.length (l.flatMap enC) ∧ Grows w w'
theorem less_one8 {k n : Nat} (h : k < n) : n - (intOf (Value.int IntKind.i64 ((k : Int) + 1))).toNat < n - (intOf (Value.int IntKind.i64 (k : Int))).toNat := by
  simp only [intOf]
  omega
theorem del_step {n : Nm} {l : Dir} {j : Nat} {p : Nm × Nat} (h : l[j]? = some p) : Dir.del n (l.take (j + 1)) = Dir.del n (l.take j) ++ (if p.1 = n then [] else [p]) := by
  unfold Dir.del
  rw [List.take_add_one, h, List.filter_append]
  congr 1
  by_cases hp : p.1 = n
  · rw [if_pos hp]; simp [hp]
  · rw [if_neg hp]; simp [hp]
theorem enC_one (p : Nm × Nat) : ∀ u ∈ enC p, u.oneCell' = true := by
  intro u hu
  simp only [enC, List.mem_cons, List.not_mem_nil, or_false] at hu
  rcases hu with rfl | rfl <;> simp [Value.oneCell']

set_option maxHeartbeats 4000000 in
set_option maxRecDepth 100000 in
theorem rdrop_any (w : World) {A : Option Addr} {n c : Nat} {l : Dir} (x : Nm) (h : Rw w A n enC 2 l) (hn : n ≤ 100000) :
    Calls Tryz.prog 112 #[.slice A n c, .string ⟨x.toArray⟩] w fun e w' => REnTo w (Dir.del x l) e w' := by
  obtain ⟨i1, hi1, hz1, hy1, hb1⟩ := info_parts infoEn
  have HI1 := Lib.hid (And.intro hi1 (And.intro hz1 (And.intro hy1 hb1)))
  have H := Lib.hid h
  have HL := Lib.hid h.len
  clear h hi1 hz1 hy1 hb1
  go_enter Tryz.func112, Tryz.ntmps112
  go_wp2_with (fail)
  go_loopw [5, 6] (fun vo vi wr => ∃ (j q : Nat) (L : Option Addr) (lc : Nat), j ≤ n ∧ q ≤ j ∧ vo = .slice L q lc ∧ vi = .int .i64 (j : Nat) ∧ Hid (q = (Dir.del x (l.take j)).length) ∧ Hid (wr.ownsRow w.heap.size 102 2 (.slice L q lc) q ((Dir.del x (l.take j)).flatMap enC)) ∧ Hid (Grows w wr)) (fun _ i _ => n - (intOf i).toNat)
  case atStart => exact ⟨0, 0, none, 0, by omega, by omega, rfl, rfl, Lib.hid rfl, Lib.hid ⟨rfl, .inl ⟨rfl, rfl⟩⟩, Lib.hid (Grows.refl _)⟩
  case round =>
    obtain ⟨j, q, L, lc, hj, hq, rfl, rfl, HQ, HR, HG⟩ := hrel
    by_cases hlt : j < n
    · obtain ⟨p, hp⟩ : ∃ p, l[j]? = some p := ⟨_, List.getElem?_eq_getElem (by rw [HL.out]; exact hlt)⟩
      obtain ⟨g, hA2, hg, hc⟩ := H.out.spot j p hp
      subst hA2
      have c0 : wr.cell? { block := g, off := j * 2 } = some (.string ⟨p.1.toArray⟩) := by
        rw [HG.out.cell (show (⟨g, j * 2, none⟩ : Addr).block < w.heap.size from hg)]; exact hc 0 (by omega)
      have c1 : wr.cell? { block := g, off := j * 2 + 1 } = some (.int .i64 (p.2 : Int)) := by
        rw [HG.out.cell (show (⟨g, j * 2 + 1, none⟩ : Addr).block < w.heap.size from hg)]; exact hc 1 (by omega)
      have hjI : (j : Int) < (n : Int) := by omega
      have hj0 : (0 : Int) ≤ (j : Int) := by omega
      have hwj : IntKind.i64.wrap ((j : Int) + 1) = (j : Int) + 1 := IntWalk.i64_in _ (by omega)
      have HST := Lib.hid (del_step (n := x) hp)
      have HLT := Lib.hid (And.intro hlt (And.intro hq hn))
      clear hp hc
      by_cases hpx : p.1 = x
      · have hb : (p.1 == x) = true := by rw [beq_iff_eq]; exact hpx
        have HE := Lib.hid (show Dir.del x (l.take (j + 1)) = Dir.del x (l.take j) by rw [HST.out, if_pos hpx, List.append_nil])
        clear hpx
        go_wp2_with (fail)
        exact ⟨⟨j + 1, q, L, lc, HLT.out.1, by omega, rfl, rfl, Lib.hid (by rw [HE.out]; exact HQ.out), Lib.hid (by rw [HE.out]; exact HR.out), HG⟩, less_one8 HLT.out.1⟩
      · have hb : (p.1 == x) = false := by rw [beq_eq_false_iff_ne]; exact hpx
        have HE := Lib.hid (show Dir.del x (l.take (j + 1)) = Dir.del x (l.take j) ++ [p] by rw [HST.out, if_neg hpx])
        have HN := Lib.hid (show (Dir.del x (l.take j)).flatMap enC ++ enC p = (Dir.del x (l.take (j + 1))).flatMap enC by rw [HE.out, List.flatMap_append]; simp)
        have HR2 := Lib.hid (owned_grow HR.out (grows_alloc wr (.cells #[.string ⟨p.1.toArray⟩, .int .i64 (p.2 : Int)] 102)))
        clear hpx
        go_wp2_with (first
          | (at_builtin
             refine list_append_at rfl (.tmp 20) (.tmp 25) 74 rfl w.heap.size 102 i1 (.agg #[.string ⟨#[]⟩, .int .i64 0]) 2 24 Tryz.underlying74 HI1.out.1 HI1.out.2.1 HI1.out.2.2.1 HI1.out.2.2.2 rfl (by decide) rfl
               HR2.out rfl (row_lit8 _ _ _) (fun h => by cases h) (enC_one p) (q + 1) rfl (by unfold maxLen; have := HLT.out; omega) (by have := HLT.out; omega) (Nat.le_trans HG.out.size (le_alloc _ _)) ?_
             intro L2 lc2 w5 hr5 hg5 hat5
             have HR5 := Lib.hid hr5
             have HG5 := Lib.hid (show Grows w w5 from Below.grown (Grows.trans HG.out (grows_alloc wr (.cells #[.string ⟨p.1.toArray⟩, .int .i64 (p.2 : Int)] 102))) hg5 (Nat.le_trans HG.out.size (le_alloc _ _)) fun k hk => (HR2.out.lt k hk).1)
             clear hr5 hg5 hat5))
        exact ⟨⟨j + 1, q + 1, L2, lc2, HLT.out.1, by have := HLT.out; omega, rfl, rfl, Lib.hid (by rw [HE.out, List.length_append, ← HQ.out]; rfl), Lib.hid (HN.out ▸ HR5.out), HG5⟩, less_one8 HLT.out.1⟩
    · obtain rfl : j = n := by omega
      have HE := Lib.hid (show l.take j = l from List.take_of_length_le (by rw [HL.out]; exact Nat.le_refl _))
      go_wp2_with (fail)
      go_ret
      have hr := HR.out
      have hq := HQ.out
      rw [HE.out] at hr hq
      exact ⟨_, rfl, hq ▸ hr, HG.out⟩
end Go.Proofs.YtdkpbphgaenlnaaGreat

/-
  The document's names: one put.
-/
namespace Go.Proofs.YtdkpbphgaenlnaaGreat
open Go.RowKit
set_option linter.unusedVariables false
set_option linter.unusedSimpArgs false
attribute [local irreducible] Go.wpQuiet
theorem rput_all {e : Nm × Nat} : ∀ {l r : Dir}, (∀ y ∈ l, bytesBefore y.1 e.1 = true) → rput e (l ++ r) = l ++ rput e r
  | [], _, _ => rfl
  | y :: l, r, h => by
    rw [List.cons_append, rput, if_pos (h y List.mem_cons_self), rput_all fun z hz => h z (List.mem_cons_of_mem _ hz), List.cons_append]
theorem rput_done {e p : Nm × Nat} : ∀ {l : Dir}, (∃ y ∈ l, bytesBefore y.1 e.1 = false) → rput e (l ++ [p]) = rput e l ++ (if p.1 = e.1 then [] else [p])
  | [], h => by obtain ⟨y, hy, _⟩ := h; cases hy
  | y :: l, h => by
    rw [List.cons_append, rput, rput]
    by_cases hy : bytesBefore y.1 e.1 = true
    · rw [if_pos hy, if_pos hy, rput_done (by
        obtain ⟨z, hz, hb⟩ := h
        rcases List.mem_cons.1 hz with rfl | hz
        · rw [hy] at hb; cases hb
        · exact ⟨z, hz, hb⟩), List.cons_append]
    · rw [if_neg hy, if_neg hy, List.cons_append]
      congr 1
      rw [← List.cons_append]
      unfold Dir.del
      rw [List.filter_append]
      congr 1
      by_cases hp : p.1 = e.1
      · rw [if_pos hp]; simp [hp]
      · rw [if_neg hp]; simp [hp]
theorem less_before : ∀ x y : Nm, Op.bytesLess x y = bytesBefore x y
  | [], [] => by simp [Op.bytesLess, bytesBefore]
  | [], _ :: _ => by simp [Op.bytesLess, bytesBefore]
  | _ :: _, [] => by simp [Op.bytesLess, bytesBefore]
  | a :: x, b :: y => by
    have ih := less_before x y
    simp [Op.bytesLess, bytesBefore, ih]
/-- How far it has come. -/
def PutS (e : Nm × Nat) (l : Dir) (dn : Bool) (o : Dir) : Prop := (dn = true ∧ o = rput e l ∧ ∃ y ∈ l, bytesBefore y.1 e.1 = false) ∨ (dn = false ∧ o = l ∧ ∀ y ∈ l, bytesBefore y.1 e.1 = true)
section
variable {e p : Nm × Nat} {l o : Dir} {j : Nat}
theorem PutS.start : PutS e ([] : Dir) false [] := .inr ⟨rfl, rfl, fun y hy => by cases hy⟩
theorem PutS.low (h : PutS e (l.take j) false o) (hp : l[j]? = some p) (hb : bytesBefore p.1 e.1 = true) : PutS e (l.take (j + 1)) false (o ++ [p]) := by
  rcases h with ⟨h1, _⟩ | ⟨_, h2, h3⟩
  · cases h1
  · rw [List.take_add_one, hp]
    refine .inr ⟨rfl, by rw [h2]; rfl, fun y hy => ?_⟩
    rcases List.mem_append.1 hy with hy | hy
    · exact h3 y hy
    · rw [List.mem_singleton.1 (show y ∈ [p] from hy)]; exact hb
theorem PutS.here (h : PutS e (l.take j) false o) (hp : l[j]? = some p) (hb : bytesBefore p.1 e.1 = false) : PutS e (l.take (j + 1)) true (o ++ [e] ++ (if p.1 = e.1 then [] else [p])) := by
  rcases h with ⟨h1, _⟩ | ⟨_, h2, h3⟩
  · cases h1
  · rw [List.take_add_one, hp]
    refine .inl ⟨rfl, ?_, p, List.mem_append_right _ (List.mem_singleton.2 rfl), hb⟩
    show _ = rput e (l.take j ++ [p])
    have hpu : rput e [p] = e :: Dir.del e.1 [p] := by rw [rput, if_neg (by rw [hb]; decide)]
    rw [rput_all h3, h2, hpu, List.append_assoc]
    congr 1
    unfold Dir.del
    by_cases hpe : p.1 = e.1
    · rw [if_pos hpe]; simp [hpe]
    · rw [if_neg hpe]; simp [hpe]
theorem PutS.more (h : PutS e (l.take j) true o) (hp : l[j]? = some p) : PutS e (l.take (j + 1)) true (o ++ (if p.1 = e.1 then [] else [p])) := by
  rcases h with ⟨_, h2, y, hy, hb⟩ | ⟨h1, _⟩
  · rw [List.take_add_one, hp]
    refine .inl ⟨rfl, ?_, y, List.mem_append_left _ hy, hb⟩
    show _ = rput e (l.take j ++ [p])
    rw [rput_done ⟨y, hy, hb⟩, h2]
  · cases h1
theorem PutS.end_ (h : PutS e l true o) : o = rput e l := by
  rcases h with ⟨_, h, _⟩ | ⟨h, _⟩
  · exact h
  · cases h
theorem PutS.last (h : PutS e l false o) : o ++ [e] = rput e l := by
  rcases h with ⟨h, _⟩ | ⟨_, h2, h3⟩
  · cases h
  · have := rput_all (r := []) h3
    rw [List.append_nil] at this
    rw [this, h2]
    rfl
end

set_option maxHeartbeats 4000000 in
set_option maxRecDepth 100000 in
theorem rput_any (w : World) {A : Option Addr} {n c : Nat} {l : Dir} (e : Nm × Nat) (h : Rw w A n enC 2 l) (hn : n ≤ 100000) :
    Calls Tryz.prog 111 #[.slice A n c, .agg #[.string ⟨e.1.toArray⟩, .int .i64 (e.2 : Int)]] w fun e' w' => REnTo w (rput e l) e' w' := by
  obtain ⟨i1, hi1, hz1, hy1, hb1⟩ := info_parts infoEn
  have HI1 := Lib.hid (And.intro hi1 (And.intro hz1 (And.intro hy1 hb1)))
  have H := Lib.hid h
  have HL := Lib.hid h.len
  clear h hi1 hz1 hy1 hb1
  have HE0 := Lib.hid (Whole.made w 102 #[.string ⟨e.1.toArray⟩, .int .i64 (e.2 : Int)])
  have HG0 := Lib.hid (grows_alloc w (.cells #[.string ⟨e.1.toArray⟩, .int .i64 (e.2 : Int)] 102))
  go_enter Tryz.func111, Tryz.ntmps111
  go_wp2_with (fail)
  go_loopw [5, 6, 7] (fun vo vd vi wr => ∃ (j q : Nat) (dn : Bool) (L : Option Addr) (lc : Nat) (o : Dir), j ≤ n ∧ q ≤ j + 1 ∧ vo = .slice L q lc ∧ vd = .bool dn ∧ vi = .int .i64 (j : Nat) ∧ Hid (q = o.length) ∧ Hid (PutS e (l.take j) dn o) ∧ Hid (dn = false → q ≤ j) ∧ Hid (wr.ownsRow (w.heap.size + 1) 102 2 (.slice L q lc) q (o.flatMap enC)) ∧ Hid (Grows (w.alloc (.cells #[.string ⟨e.1.toArray⟩, .int .i64 (e.2 : Int)] 102)) wr)) (fun _ _ i _ => n - (intOf i).toNat)
  case atStart => exact ⟨0, 0, false, none, 0, [], by omega, by omega, rfl, rfl, rfl, Lib.hid rfl, Lib.hid PutS.start, Lib.hid (fun _ => by omega), Lib.hid ⟨rfl, .inl ⟨rfl, rfl⟩⟩, Lib.hid (Grows.refl _)⟩
  case round =>
    obtain ⟨j, q, dn, L, lc, o, hj, hq, rfl, rfl, rfl, HQ, HP, HDQ, HR, HG⟩ := hrel
    have HGW := Lib.hid (Grows.trans HG0.out HG.out)
    have e0 : wr.cell? { block := w.heap.size, off := 0 } = some (.string ⟨e.1.toArray⟩) := (HG.out.whole HE0.out).cell 0
    have e1 : wr.cell? { block := w.heap.size, off := 1 } = some (.int .i64 (e.2 : Int)) := (HG.out.whole HE0.out).cell 1
    by_cases hlt : j < n
    · obtain ⟨p, hp⟩ : ∃ p, l[j]? = some p := ⟨_, List.getElem?_eq_getElem (by rw [HL.out]; exact hlt)⟩
      obtain ⟨g, hA2, hg, hc⟩ := H.out.spot j p hp
      subst hA2
      have c0 : wr.cell? { block := g, off := j * 2 } = some (.string ⟨p.1.toArray⟩) := by
        rw [HGW.out.cell (show (⟨g, j * 2, none⟩ : Addr).block < w.heap.size from hg)]; exact hc 0 (by omega)
      have hjI : (j : Int) < (n : Int) := by omega
      have hj0 : (0 : Int) ≤ (j : Int) := by omega
      have hwj : IntKind.i64.wrap ((j : Int) + 1) = (j : Int) + 1 := IntWalk.i64_in _ (by omega)
      have HCF := Lib.hid (show ∀ w', Grows wr w' → w'.cell? { block := g, off := j * 2 } = some (.string ⟨p.1.toArray⟩) ∧ w'.cell? { block := g, off := j * 2 + 1 } = some (.int .i64 (p.2 : Int)) ∧ w'.cell? { block := w.heap.size, off := 0 } = some (.string ⟨e.1.toArray⟩) ∧ w'.cell? { block := w.heap.size, off := 1 } = some (.int .i64 (e.2 : Int)) from fun w' hg' =>
        ⟨((Grows.trans HGW.out hg').cell (show (⟨g, j * 2, none⟩ : Addr).block < w.heap.size from hg)).trans (hc 0 (by omega)), ((Grows.trans HGW.out hg').cell (show (⟨g, j * 2 + 1, none⟩ : Addr).block < w.heap.size from hg)).trans (hc 1 (by omega)), ((Grows.trans HG.out hg').whole HE0.out).cell 0, ((Grows.trans HG.out hg').whole HE0.out).cell 1⟩)
      have HPP := Lib.hid hp
      have HCX := Lib.hid (show ∀ w', Grows (w.alloc (.cells #[.string ⟨e.1.toArray⟩, .int .i64 (e.2 : Int)] 102)) w' → w'.cell? { block := g, off := j * 2 } = some (.string ⟨p.1.toArray⟩) ∧ w'.cell? { block := g, off := j * 2 + 1 } = some (.int .i64 (p.2 : Int)) ∧ w'.cell? { block := w.heap.size, off := 0 } = some (.string ⟨e.1.toArray⟩) ∧ w'.cell? { block := w.heap.size, off := 1 } = some (.int .i64 (e.2 : Int)) from fun w' hg' =>
        ⟨((Grows.trans HG0.out hg').cell (show (⟨g, j * 2, none⟩ : Addr).block < w.heap.size from hg)).trans (hc 0 (by omega)), ((Grows.trans HG0.out hg').cell (show (⟨g, j * 2 + 1, none⟩ : Addr).block < w.heap.size from hg)).trans (hc 1 (by omega)), (hg'.whole HE0.out).cell 0, (hg'.whole HE0.out).cell 1⟩)
      have HLT := Lib.hid (And.intro hlt (And.intro hq hn))
      have HLS := Lib.hid (less_before p.1 e.1)
      clear hp hc c0 e0 e1
      cases dn with
      | true =>
        by_cases hpx : p.1 = e.1
        · have hb : (p.1 == e.1) = true := by rw [beq_iff_eq]; exact hpx
          have HPN := Lib.hid (HP.out.more HPP.out)
          rw [if_pos hpx, List.append_nil] at HPN
          clear hpx
          go_wp2_with (fail)
          refine q_region mixed (by kernel_rfl) ?_
          iterate 3
            (refine q_op' (v := ?_) (a' := ?_) (by rfl) ?_ ?_ ?_
             rotate_left 2
             · intro w' hC
               obtain ⟨z1, z2, z3, z4⟩ := HCF.out w' (hC)
               clear hC
               go_simp
               try with_reducible rfl
             · simp only [Act.put, List.setIfInBounds_toArray, List.set_cons_zero, List.set_cons_succ]
               try rfl)
          iterate 8
            (refine q_skip' (a' := ?_) (by rfl) ?_ ?_
             rotate_left 1
             · simp only [Act.put, List.setIfInBounds_toArray, List.set_cons_zero, List.set_cons_succ]
               try rfl)
          iterate 1
            (refine q_op' (v := ?_) (a' := ?_) (by rfl) ?_ ?_ ?_
             rotate_left 2
             · intro w' hC
               obtain ⟨z1, z2, z3, z4⟩ := HCF.out w' (hC)
               clear hC
               go_simp
               try with_reducible rfl
             · simp only [Act.put, List.setIfInBounds_toArray, List.set_cons_zero, List.set_cons_succ]
               try rfl)
          refine wpQuiet_nil ?_
          intro w5 hC
          have HCw5 := Lib.hid hC
          clear hC
          go_wp2_with (fail)
          refine q_region mixed (by kernel_rfl) ?_
          iterate 8
            (refine q_op' (v := ?_) (a' := ?_) (by rfl) ?_ ?_ ?_
             rotate_left 2
             · intro w' hC
               obtain ⟨z1, z2, z3, z4⟩ := HCF.out w' (Grows.trans HCw5.out hC)
               clear hC
               go_simp
               try with_reducible rfl
             · simp only [Act.put, List.setIfInBounds_toArray, List.set_cons_zero, List.set_cons_succ]
               try rfl)
          refine wpQuiet_nil ?_
          intro w6 hC
          have HCw6 := Lib.hid hC
          clear hC
          go_wp2_with (fail)
          exact ⟨⟨j + 1, q, true, L, lc, o, HLT.out.1, by have := HLT.out; omega, rfl, rfl, rfl, HQ, HPN, Lib.hid (fun h => by cases h), Lib.hid (owned_grow HR.out (Grows.trans HCw5.out HCw6.out)), Lib.hid (Grows.trans HG.out (Grows.trans HCw5.out HCw6.out))⟩, less_one8 HLT.out.1⟩
        · have hb : (p.1 == e.1) = false := by rw [beq_eq_false_iff_ne]; exact hpx
          have HPN := Lib.hid (HP.out.more HPP.out)
          rw [if_neg hpx] at HPN
          clear hpx
          go_wp2_with (fail)
          refine q_region mixed (by kernel_rfl) ?_
          iterate 3
            (refine q_op' (v := ?_) (a' := ?_) (by rfl) ?_ ?_ ?_
             rotate_left 2
             · intro w' hC
               obtain ⟨z1, z2, z3, z4⟩ := HCF.out w' (hC)
               clear hC
               go_simp
               try with_reducible rfl
             · simp only [Act.put, List.setIfInBounds_toArray, List.set_cons_zero, List.set_cons_succ]
               try rfl)
          iterate 8
            (refine q_skip' (a' := ?_) (by rfl) ?_ ?_
             rotate_left 1
             · simp only [Act.put, List.setIfInBounds_toArray, List.set_cons_zero, List.set_cons_succ]
               try rfl)
          iterate 1
            (refine q_op' (v := ?_) (a' := ?_) (by rfl) ?_ ?_ ?_
             rotate_left 2
             · intro w' hC
               obtain ⟨z1, z2, z3, z4⟩ := HCF.out w' (hC)
               clear hC
               go_simp
               try with_reducible rfl
             · simp only [Act.put, List.setIfInBounds_toArray, List.set_cons_zero, List.set_cons_succ]
               try rfl)
          refine wpQuiet_nil ?_
          intro w5 hC
          have HCw5 := Lib.hid hC
          clear hC
          go_wp2_with (fail)
          refine q_region mixed (by kernel_rfl) ?_
          iterate 8
            (refine q_op' (v := ?_) (a' := ?_) (by rfl) ?_ ?_ ?_
             rotate_left 2
             · intro w' hC
               obtain ⟨z1, z2, z3, z4⟩ := HCF.out w' (Grows.trans HCw5.out hC)
               clear hC
               go_simp
               try with_reducible rfl
             · simp only [Act.put, List.setIfInBounds_toArray, List.set_cons_zero, List.set_cons_succ]
               try rfl)
          refine wpQuiet_nil ?_
          intro w6 hC
          have HCw6 := Lib.hid hC
          clear hC
          obtain ⟨z1, z2, z3, z4⟩ := HCF.out w6 (Grows.trans HCw5.out HCw6.out)
          have HRW := Lib.hid (owned_grow HR.out (Grows.trans HCw5.out HCw6.out))
          have HGX := Lib.hid (Grows.trans HG.out (Grows.trans HCw5.out HCw6.out))
          have HN := Lib.hid (show o.flatMap enC ++ enC p = (o ++ [p]).flatMap enC by rw [List.flatMap_append]; simp)
          have HR2 := Lib.hid (owned_grow HRW.out (grows_alloc w6 (.cells #[.string ⟨p.1.toArray⟩, .int .i64 (p.2 : Int)] 102)))
          go_wp2_with (first
            | (at_builtin
               refine list_append_at rfl (.tmp 38) (.tmp 43) 74 rfl (w.heap.size + 1) 102 i1 (.agg #[.string ⟨#[]⟩, .int .i64 0]) 2 24 Tryz.underlying74 HI1.out.1 HI1.out.2.1 HI1.out.2.2.1 HI1.out.2.2.2 rfl (by decide) rfl
                 HR2.out rfl (row_lit8 _ _ _) (fun h => by cases h) (enC_one p) (q + 1) rfl (by unfold maxLen; have := HLT.out; omega) (by have := HLT.out; omega) (Nat.le_trans (by have := HGX.out.size; rw [World.size_alloc] at this; exact this) (le_alloc _ _)) ?_
               intro L2 lc2 w8 hr5 hg5 hat5
               have HR5 := Lib.hid hr5
               have HG5 := Lib.hid (show Grows (w.alloc (.cells #[.string ⟨e.1.toArray⟩, .int .i64 (e.2 : Int)] 102)) w8 from Below.grown (Grows.trans HGX.out (grows_alloc w6 (.cells #[.string ⟨p.1.toArray⟩, .int .i64 (p.2 : Int)] 102))) hg5 (Nat.le_trans HGX.out.size (le_alloc _ _)) fun k hk => by rw [World.size_alloc]; exact (HR2.out.lt k hk).1)
               clear hr5 hg5 hat5))
          exact ⟨⟨j + 1, q + 1, true, L2, lc2, o ++ [p], HLT.out.1, by have := HLT.out; omega, rfl, rfl, rfl, Lib.hid (by rw [List.length_append, ← HQ.out]; rfl), HPN, Lib.hid (fun h => by cases h), Lib.hid (HN.out ▸ HR5.out), HG5⟩, less_one8 HLT.out.1⟩
      | false =>
        have HQJ := Lib.hid (HDQ.out rfl)
        by_cases hbb : bytesBefore p.1 e.1 = true
        · have hb : (p.1 == e.1) = false := by
            rw [beq_eq_false_iff_ne]
            intro h
            rw [h, bef_irrefl] at hbb
            cases hbb
          have HPN := Lib.hid (HP.out.low HPP.out hbb)
          have HBL := Lib.hid (show Op.bytesLess p.1 e.1 = true by rw [HLS.out]; exact hbb)
          clear hbb
          go_wp2_with (fail)
          refine q_region mixed (by kernel_rfl) ?_
          iterate 12
            (refine q_op' (v := ?_) (a' := ?_) (by rfl) ?_ ?_ ?_
             rotate_left 2
             · intro w' hC
               obtain ⟨z1, z2, z3, z4⟩ := HCF.out w' (hC)
               have hbl := HBL.out
               clear hC
               go_simp
               try with_reducible rfl
             · simp only [Act.put, List.setIfInBounds_toArray, List.set_cons_zero, List.set_cons_succ]
               try rfl)
          refine wpQuiet_nil ?_
          intro w5 hC
          have HCw5 := Lib.hid hC
          clear hC
          go_wp2_with (fail)
          refine q_region mixed (by kernel_rfl) ?_
          iterate 8
            (refine q_op' (v := ?_) (a' := ?_) (by rfl) ?_ ?_ ?_
             rotate_left 2
             · intro w' hC
               obtain ⟨z1, z2, z3, z4⟩ := HCF.out w' (Grows.trans HCw5.out hC)
               clear hC
               go_simp
               try with_reducible rfl
             · simp only [Act.put, List.setIfInBounds_toArray, List.set_cons_zero, List.set_cons_succ]
               try rfl)
          refine wpQuiet_nil ?_
          intro w6 hC
          have HCw6 := Lib.hid hC
          clear hC
          obtain ⟨z1, z2, z3, z4⟩ := HCF.out w6 (Grows.trans HCw5.out HCw6.out)
          have HRW := Lib.hid (owned_grow HR.out (Grows.trans HCw5.out HCw6.out))
          have HGX := Lib.hid (Grows.trans HG.out (Grows.trans HCw5.out HCw6.out))
          have HN := Lib.hid (show o.flatMap enC ++ enC p = (o ++ [p]).flatMap enC by rw [List.flatMap_append]; simp)
          have HR2 := Lib.hid (owned_grow HRW.out (grows_alloc w6 (.cells #[.string ⟨p.1.toArray⟩, .int .i64 (p.2 : Int)] 102)))
          go_wp2_with (first
            | (at_builtin
               refine list_append_at rfl (.tmp 38) (.tmp 43) 74 rfl (w.heap.size + 1) 102 i1 (.agg #[.string ⟨#[]⟩, .int .i64 0]) 2 24 Tryz.underlying74 HI1.out.1 HI1.out.2.1 HI1.out.2.2.1 HI1.out.2.2.2 rfl (by decide) rfl
                 HR2.out rfl (row_lit8 _ _ _) (fun h => by cases h) (enC_one p) (q + 1) rfl (by unfold maxLen; have := HLT.out; omega) (by have := HLT.out; omega) (Nat.le_trans (by have := HGX.out.size; rw [World.size_alloc] at this; exact this) (le_alloc _ _)) ?_
               intro L2 lc2 w8 hr5 hg5 hat5
               have HR5 := Lib.hid hr5
               have HG5 := Lib.hid (show Grows (w.alloc (.cells #[.string ⟨e.1.toArray⟩, .int .i64 (e.2 : Int)] 102)) w8 from Below.grown (Grows.trans HGX.out (grows_alloc w6 (.cells #[.string ⟨p.1.toArray⟩, .int .i64 (p.2 : Int)] 102))) hg5 (Nat.le_trans HGX.out.size (le_alloc _ _)) fun k hk => by rw [World.size_alloc]; exact (HR2.out.lt k hk).1)
               clear hr5 hg5 hat5))
          exact ⟨⟨j + 1, q + 1, false, L2, lc2, o ++ [p], HLT.out.1, by have := HLT.out; omega, rfl, rfl, rfl, Lib.hid (by rw [List.length_append, ← HQ.out]; rfl), HPN, Lib.hid (fun _ => by have := HQJ.out; omega), Lib.hid (HN.out ▸ HR5.out), HG5⟩, less_one8 HLT.out.1⟩
        · have HBL := Lib.hid (show Op.bytesLess p.1 e.1 = false by rw [HLS.out]; simpa using hbb)
          have HPN := Lib.hid (HP.out.here HPP.out (by simpa using hbb))
          clear hbb
          go_wp2_with (fail)
          refine q_region mixed (by kernel_rfl) ?_
          iterate 12
            (refine q_op' (v := ?_) (a' := ?_) (by rfl) ?_ ?_ ?_
             rotate_left 2
             · intro w' hC
               obtain ⟨z1, z2, z3, z4⟩ := HCF.out w' (hC)
               have hbl := HBL.out
               clear hC
               go_simp
               try with_reducible rfl
             · simp only [Act.put, List.setIfInBounds_toArray, List.set_cons_zero, List.set_cons_succ]
               try rfl)
          refine wpQuiet_nil ?_
          intro w5 hC
          have HCw5 := Lib.hid hC
          clear hC
          obtain ⟨z1, z2, z3, z4⟩ := HCF.out w5 HCw5.out
          have HRW := Lib.hid (owned_grow HR.out HCw5.out)
          have HGX := Lib.hid (Grows.trans HG.out HCw5.out)
          have HN := Lib.hid (show o.flatMap enC ++ enC e = (o ++ [e]).flatMap enC by rw [List.flatMap_append]; simp)
          have HR2 := Lib.hid (owned_grow HRW.out (grows_alloc w5 (.cells #[.string ⟨e.1.toArray⟩, .int .i64 (e.2 : Int)] 102)))
          go_wp2_with (first
            | (at_builtin
               refine list_append_at rfl (.tmp 26) (.tmp 28) 74 rfl (w.heap.size + 1) 102 i1 (.agg #[.string ⟨#[]⟩, .int .i64 0]) 2 24 Tryz.underlying74 HI1.out.1 HI1.out.2.1 HI1.out.2.2.1 HI1.out.2.2.2 rfl (by decide) rfl
                 HR2.out rfl (row_lit8 _ _ _) (fun h => by cases h) (enC_one e) (q + 1) rfl (by unfold maxLen; have := HLT.out; omega) (by have := HLT.out; omega) (Nat.le_trans (by have := HGX.out.size; rw [World.size_alloc] at this; exact this) (le_alloc _ _)) ?_
               intro L2 lc2 w8 hr5 hg5 hat5
               have HR5 := Lib.hid hr5
               have HG5 := Lib.hid (show Grows (w.alloc (.cells #[.string ⟨e.1.toArray⟩, .int .i64 (e.2 : Int)] 102)) w8 from Below.grown (Grows.trans HGX.out (grows_alloc w5 (.cells #[.string ⟨e.1.toArray⟩, .int .i64 (e.2 : Int)] 102))) hg5 (Nat.le_trans HGX.out.size (le_alloc _ _)) fun k hk => by rw [World.size_alloc]; exact (HR2.out.lt k hk).1)
               clear hr5 hg5 hat5))
          have hcx := (show ∀ w', Grows w8 w' → w'.cell? { block := g, off := j * 2 } = some (.string ⟨p.1.toArray⟩) ∧ w'.cell? { block := g, off := j * 2 + 1 } = some (.int .i64 (p.2 : Int)) ∧ w'.cell? { block := w.heap.size, off := 0 } = some (.string ⟨e.1.toArray⟩) ∧ w'.cell? { block := w.heap.size, off := 1 } = some (.int .i64 (e.2 : Int)) from fun w' hg' => HCX.out w' (Grows.trans HG5.out hg'))
          have HCF2 := Lib.hid hcx
          clear hcx
          have HRW1 := Lib.hid (show w8.ownsRow (w.heap.size + 1) 102 2 (.slice L2 (q + 1) lc2) (q + 1) ((o ++ [e]).flatMap enC) from HN.out ▸ HR5.out)
          by_cases hpe : p.1 = e.1
          · have hb : (p.1 == e.1) = true := by rw [beq_iff_eq]; exact hpe
            rw [if_pos hpe, List.append_nil] at HPN
            clear hpe
            go_wp2_with (fail)
            refine q_region mixed (by kernel_rfl) ?_
            iterate 8
              (refine q_op' (v := ?_) (a' := ?_) (by rfl) ?_ ?_ ?_
               rotate_left 2
               · intro w' hC
                 obtain ⟨z1, z2, z3, z4⟩ := HCF2.out w' hC
                 clear hC
                 go_simp
                 try with_reducible rfl
               · simp only [Act.put, List.setIfInBounds_toArray, List.set_cons_zero, List.set_cons_succ]
                 try rfl)
            refine wpQuiet_nil ?_
            intro w9 hC
            have HCw9 := Lib.hid hC
            clear hC
            go_wp2_with (fail)
            exact ⟨⟨j + 1, q + 1, true, L2, lc2, o ++ [e], HLT.out.1, by have := HLT.out; omega, rfl, rfl, rfl, Lib.hid (by rw [List.length_append, ← HQ.out]; rfl), HPN, Lib.hid (fun h => by cases h), Lib.hid (owned_grow HRW1.out HCw9.out), Lib.hid (Grows.trans HG5.out HCw9.out)⟩, less_one8 HLT.out.1⟩
          · have hb : (p.1 == e.1) = false := by rw [beq_eq_false_iff_ne]; exact hpe
            rw [if_neg hpe] at HPN
            clear hpe
            go_wp2_with (fail)
            refine q_region mixed (by kernel_rfl) ?_
            iterate 8
              (refine q_op' (v := ?_) (a' := ?_) (by rfl) ?_ ?_ ?_
               rotate_left 2
               · intro w' hC
                 obtain ⟨z1, z2, z3, z4⟩ := HCF2.out w' hC
                 clear hC
                 go_simp
                 try with_reducible rfl
               · simp only [Act.put, List.setIfInBounds_toArray, List.set_cons_zero, List.set_cons_succ]
                 try rfl)
            refine wpQuiet_nil ?_
            intro w9 hC
            have HCw9 := Lib.hid hC
            clear hC
            obtain ⟨z1, z2, z3, z4⟩ := HCF2.out w9 HCw9.out
            have HRW2 := Lib.hid (owned_grow HRW1.out HCw9.out)
            have HGX2 := Lib.hid (Grows.trans HG5.out HCw9.out)
            have HN2 := Lib.hid (show (o ++ [e]).flatMap enC ++ enC p = (o ++ [e] ++ [p]).flatMap enC by rw [List.flatMap_append]; simp)
            have HR3 := Lib.hid (owned_grow HRW2.out (grows_alloc w9 (.cells #[.string ⟨p.1.toArray⟩, .int .i64 (p.2 : Int)] 102)))
            go_wp2_with (first
              | (at_builtin
                 refine list_append_at rfl (.tmp 38) (.tmp 43) 74 rfl (w.heap.size + 1) 102 i1 (.agg #[.string ⟨#[]⟩, .int .i64 0]) 2 24 Tryz.underlying74 HI1.out.1 HI1.out.2.1 HI1.out.2.2.1 HI1.out.2.2.2 rfl (by decide) rfl
                   HR3.out rfl (row_lit8 _ _ _) (fun h => by cases h) (enC_one p) (q + 1 + 1) rfl (by unfold maxLen; have := HLT.out; omega) (by have := HLT.out; omega) (Nat.le_trans (by have := HGX2.out.size; rw [World.size_alloc] at this; exact this) (le_alloc _ _)) ?_
                 intro L3 lc3 w10 hr5 hg5 hat5
                 have HR6 := Lib.hid hr5
                 have HG6 := Lib.hid (show Grows (w.alloc (.cells #[.string ⟨e.1.toArray⟩, .int .i64 (e.2 : Int)] 102)) w10 from Below.grown (Grows.trans HGX2.out (grows_alloc w9 (.cells #[.string ⟨p.1.toArray⟩, .int .i64 (p.2 : Int)] 102))) hg5 (Nat.le_trans HGX2.out.size (le_alloc _ _)) fun k hk => by rw [World.size_alloc]; exact (HR3.out.lt k hk).1)
                 clear hr5 hg5 hat5))
            exact ⟨⟨j + 1, q + 1 + 1, true, L3, lc3, o ++ [e] ++ [p], HLT.out.1, by have := HLT.out; have := HQJ.out; omega, rfl, rfl, rfl, Lib.hid (by rw [List.length_append, List.length_append, ← HQ.out]; rfl), HPN, Lib.hid (fun h => by cases h), Lib.hid (HN2.out ▸ HR6.out), HG6⟩, less_one8 HLT.out.1⟩
    · obtain rfl : j = n := by omega
      have HTK := Lib.hid (show l.take j = l from List.take_of_length_le (by rw [HL.out]; exact Nat.le_refl _))
      have HPZ := Lib.hid (show PutS e l dn o from HTK.out ▸ HP.out)
      cases dn with
      | true =>
        go_wp2_with (fail)
        go_ret
        have ho := HPZ.out.end_
        have hr := HR.out
        have hq := HQ.out
        rw [ho] at hr hq
        exact ⟨_, rfl, owned_from (hq ▸ hr) (Nat.le_succ _), HGW.out⟩
      | false =>
        have HQJ := Lib.hid (HDQ.out rfl)
        have HLT := Lib.hid (And.intro hq hn)
        have HRW := Lib.hid HR.out
        have HGX := Lib.hid HG.out
        have HN := Lib.hid (show o.flatMap enC ++ enC e = (o ++ [e]).flatMap enC by rw [List.flatMap_append]; simp)
        have HR2 := Lib.hid (owned_grow HRW.out (grows_alloc wr (.cells #[.string ⟨e.1.toArray⟩, .int .i64 (e.2 : Int)] 102)))
        go_wp2_with (first
          | (at_builtin
             refine list_append_at rfl (.tmp 47) (.tmp 49) 74 rfl (w.heap.size + 1) 102 i1 (.agg #[.string ⟨#[]⟩, .int .i64 0]) 2 24 Tryz.underlying74 HI1.out.1 HI1.out.2.1 HI1.out.2.2.1 HI1.out.2.2.2 rfl (by decide) rfl
               HR2.out rfl (row_lit8 _ _ _) (fun h => by cases h) (enC_one e) (q + 1) rfl (by unfold maxLen; have := HLT.out; omega) (by have := HLT.out; omega) (Nat.le_trans (by have := HGX.out.size; rw [World.size_alloc] at this; exact this) (le_alloc _ _)) ?_
             intro L2 lc2 w8 hr5 hg5 hat5
             have HR5 := Lib.hid hr5
             have HG5 := Lib.hid (show Grows (w.alloc (.cells #[.string ⟨e.1.toArray⟩, .int .i64 (e.2 : Int)] 102)) w8 from Below.grown (Grows.trans HGX.out (grows_alloc wr (.cells #[.string ⟨e.1.toArray⟩, .int .i64 (e.2 : Int)] 102))) hg5 (Nat.le_trans HGX.out.size (le_alloc _ _)) fun k hk => by rw [World.size_alloc]; exact (HR2.out.lt k hk).1)
             clear hr5 hg5 hat5))
        go_ret
        have ho := HPZ.out.last
        have hr : w8.ownsRow (w.heap.size + 1) 102 2 (.slice L2 (q + 1) lc2) (q + 1) (o.flatMap enC ++ enC e) := HR5.out
        rw [HN.out, ho] at hr
        have hq2 : q + 1 = (rput e l).length := by rw [← ho, List.length_append, ← HQ.out]; rfl
        exact ⟨_, rfl, owned_from (hq2 ▸ hr) (Nat.le_succ _), Grows.trans HG0.out HG5.out⟩
end Go.Proofs.YtdkpbphgaenlnaaGreat

/-
  What is done to the document's names.
-/
namespace Go.Proofs.YtdkpbphgaenlnaaGreat
open Go.RowKit
set_option linter.unusedVariables false
set_option linter.unusedSimpArgs false
/-- A row of names, of one's own. -/
def enFact (B : Nat) (l : Dir) : Fact Grows := ⟨Option Addr × Nat, (none, 0), fun p => .slice p.1 l.length p.2, fun p w => w.ownsRow B 102 2 (.slice p.1 l.length p.2) l.length (l.flatMap enC), fun _ _ _ h g => owned_grow h g⟩
theorem f_en {P : Program} {ops : Array Oper} {W : World} {Q : Act → World → Prop} {o : Oper} {rest : List Oper} {fs : List (Fact Grows)} {ks : Known} {a : Act} (B : Nat) (l : Dir) (f : FuncId) (args : Array Value) (hw : Region.wanted o (yielded ops a.tmps) = true) (h1 : ∀ w, Grows W w → (execOp a.eval o).run P w = .ok (.enter f args) w)
    (hB : B ≤ W.heap.size) (hc : ∀ w, Grows W w → ks.for (o.looksAt ops) w → Calls P f args w fun e w' => REnTo w l e w')
    (h2 : ∀ A c, wpF P ops Grows W Q rest fs ((o.dst, fun w => w.ownsRow B 102 2 (.slice A l.length c) l.length (l.flatMap enC)) :: ks) (a.put o.dst (.slice A l.length c))) :
    wpF P ops Grows W Q (o :: rest) (enFact B l :: fs) ks a := by
  unfold wpF fStep
  rw [if_pos hw]
  refine ⟨fun w hW hk => ?_, fun x => h2 x.1 x.2⟩
  unfold gives
  rw [h1 w hW]
  refine (hc w hW hk).mono ?_
  rintro e w' ⟨v, rfl, hr, hg⟩
  obtain ⟨A, c, rfl⟩ := slice_own2 hr
  exact ⟨hg, (A, c), rfl, owned_from hr (Nat.le_trans hB hW.size)⟩
theorem list_assign8 {P : Program} {Q : Exit → Act → World → Prop} {ops : Array Oper} {o : Oper} {rest : List Oper} {a : Act} {w : World} (hg : o.guard = none) (x : Operand) (ho : o.op = .assign x) (h : wpList P ops Q rest (a.put o.dst (a.eval x)) w) : wpList P ops Q (o :: rest) a w := by
  refine wpList_plain hg fun K hK => ?_
  unfold Oper.wp execOp
  simp only [ho, Sem.run_pure]
  exact hK _ _ h
def RDoTo (w : World) (v0 : Value) (l : Dir) (e : Ending) (w' : World) : Prop := ∃ v, e = .returned v ∧ w'.ownsRow 0 102 2 v l.length (l.flatMap enC) ∧ (∀ k, v.ownBlock = some k → v0.ownBlock = some k ∨ w.heap.size ≤ k) ∧ Grows w w'
theorem RDoTo.of {w w' : World} {v0 : Value} {l : Dir} {e : Ending} {w1 : World} (h : REnTo w1 l e w') (hg : Grows w w1) : RDoTo w v0 l e w' := by
  obtain ⟨v, rfl, hr, hg2⟩ := h
  exact ⟨v, rfl, owned_from hr (Nat.zero_le _), fun k hk => .inr (Nat.le_trans hg.size (hr.lt k hk).1), Grows.trans hg hg2⟩

set_option maxHeartbeats 4000000 in
set_option maxRecDepth 100000 in
theorem rdoes_any (w : World) {A : Option Addr} {n c : Nat} {l : Dir} (ch : Ch) (h : w.ownsRow 0 102 2 (.slice A n c) n (l.flatMap enC)) (hl : l.length = n) (hn : n ≤ 100000) :
    Calls Tryz.prog 62 #[.slice A n c, .agg (chC ch).toArray] w fun e w' => RDoTo w (.slice A n c) (rdoes ch l) e w' := by
  have hrw := Rw.owned enL hl h
  have H := Lib.hid (And.intro h hrw)
  have HL := Lib.hid hl
  have HG0 := Lib.hid (grows_alloc w (.cells (chC ch).toArray 95))
  have HO := Lib.hid (Whole.made w 95 (chC ch).toArray)
  clear h hl hrw
  cases ch with
  | made x f =>
    have c0 : (w.alloc (.cells (chC (.made x f)).toArray 95)).cell? ⟨w.heap.size, 0, none⟩ = some (.int .i64 1) := HO.out.cell 0
    have c1 : (w.alloc (.cells (chC (.made x f)).toArray 95)).cell? ⟨w.heap.size, 1, none⟩ = some (.string ⟨x.toArray⟩) := HO.out.cell 1
    have c3 : (w.alloc (.cells (chC (.made x f)).toArray 95)).cell? ⟨w.heap.size, 3, none⟩ = some (.int .i64 (f : Int)) := HO.out.cell 3
    have HFI := Lib.hid (rfind_any _ (c := c) x (H.out.2.grow HG0.out) (by omega))
    have HPU := Lib.hid (rput_any _ (c := c) (x, f) (H.out.2.grow HG0.out) hn)
    go_enter Tryz.func62, Tryz.ntmps62
    go_wp2_with (fail)
    refine HFI.out.mono ?_
    rintro e w1 ⟨rfl, rfl⟩
    go_wp2_with (fail)
    refine HPU.out.mono ?_
    rintro e w2 hr
    have HR := Lib.hid (RDoTo.of (v0 := .slice A n c) hr HG0.out)
    obtain ⟨v, rfl, _⟩ := hr
    go_wp2_with (fail)
    go_ret
    exact HR.out
  | taken x =>
    have c0 : (w.alloc (.cells (chC (.taken x)).toArray 95)).cell? ⟨w.heap.size, 0, none⟩ = some (.int .i64 3) := HO.out.cell 0
    have c1 : (w.alloc (.cells (chC (.taken x)).toArray 95)).cell? ⟨w.heap.size, 1, none⟩ = some (.string ⟨x.toArray⟩) := HO.out.cell 1
    have HFI := Lib.hid (rfind_any _ (c := c) x (H.out.2.grow HG0.out) (by omega))
    have HPU := Lib.hid (rdrop_any _ (c := c) x (H.out.2.grow HG0.out) hn)
    go_enter Tryz.func62, Tryz.ntmps62
    go_wp2_with (fail)
    refine HFI.out.mono ?_
    rintro e w1 ⟨rfl, rfl⟩
    go_wp2_with (fail)
    refine HPU.out.mono ?_
    rintro e w2 hr
    have HR := Lib.hid (RDoTo.of (v0 := .slice A n c) hr HG0.out)
    obtain ⟨v, rfl, _⟩ := hr
    go_wp2_with (fail)
    go_ret
    exact HR.out
  | moved x y =>
    change Calls Tryz.prog 62 #[.slice A n c, .agg #[.int .i64 2, .string ⟨x.toArray⟩, .string ⟨y.toArray⟩, .int .i64 0]] w _
    have HG0' := Lib.hid (show Grows w (w.alloc (.cells #[.int .i64 2, .string ⟨x.toArray⟩, .string ⟨y.toArray⟩, .int .i64 0] 95)) from HG0.out)
    have HO' := Lib.hid (show Whole (w.alloc (.cells #[.int .i64 2, .string ⟨x.toArray⟩, .string ⟨y.toArray⟩, .int .i64 0] 95)) w.heap.size 95 #[.int .i64 2, .string ⟨x.toArray⟩, .string ⟨y.toArray⟩, .int .i64 0] from HO.out)
    clear HG0 HO
    obtain ⟨W1, hW1⟩ : ∃ W1, w.alloc (.cells #[.int .i64 2, .string ⟨x.toArray⟩, .string ⟨y.toArray⟩, .int .i64 0] 95) = W1 := ⟨_, rfl⟩
    have HG0 := Lib.hid (show Grows w W1 from hW1 ▸ HG0'.out)
    have HO := Lib.hid (show Whole W1 w.heap.size 95 #[.int .i64 2, .string ⟨x.toArray⟩, .string ⟨y.toArray⟩, .int .i64 0] from hW1 ▸ HO'.out)
    clear HG0' HO'
    have c0 : W1.cell? ⟨w.heap.size, 0, none⟩ = some (.int .i64 2) := HO.out.cell 0
    have c1 : W1.cell? ⟨w.heap.size, 1, none⟩ = some (.string ⟨x.toArray⟩) := HO.out.cell 1
    have c2 : W1.cell? ⟨w.heap.size, 2, none⟩ = some (.string ⟨y.toArray⟩) := HO.out.cell 2
    have HFI := Lib.hid (rfind_any W1 (c := c) x (H.out.2.grow HG0.out) (by omega))
    rcases fidx_find (n := x) (l := l) with ⟨hf, hx⟩ | ⟨i, f, hf, hx, hi⟩
    · rw [hx] at HFI
      have HRD := Lib.hid (show rdoes (.moved x y) l = l by show (match Dir.find x l with | some f => rput (y, f) (Dir.del x l) | none => l) = l; rw [hf])
      clear hf hx
      go_enter Tryz.func62, Tryz.ntmps62
      go_wp2_with (fail)
      refine HFI.out.mono ?_
      rintro e w1 ⟨rfl, rfl⟩
      go_wp2_with (fail)
      go_ret
      rw [HRD.out]
      exact ⟨_, rfl, HL.out.symm ▸ owned_grow H.out.1 HG0.out, fun k hk => .inl hk, HG0.out⟩
    · rw [hx] at HFI
      have HRD := Lib.hid (show rdoes (.moved x y) l = rput (y, f) (Dir.del x l) by show (match Dir.find x l with | some f => rput (y, f) (Dir.del x l) | none => l) = _; rw [hf])
      obtain ⟨g, hA, hg, hc⟩ := H.out.2.spot i _ hi
      subst hA
      have hil : i < n := by rw [← HL.out]; exact (List.getElem?_eq_some_iff.1 hi).1
      have hiI : (i : Int) < (n : Int) := by omega
      have hi0 : (0 : Int) ≤ (i : Int) := by omega
      have hin : ¬ (i : Int) < 0 := by omega
      have c4 : W1.cell? { block := g, off := i * 2 + 1 } = some (.int .i64 (f : Int)) := by
        rw [HG0.out.cell (show (⟨g, i * 2 + 1, none⟩ : Addr).block < w.heap.size from hg)]; exact hc 1 (by omega)
      have hgs : g < W1.heap.size := Nat.lt_of_lt_of_le hg HG0.out.size
      have hws : w.heap.size < W1.heap.size := HO.out.lt
      have hne1 : ¬ g = W1.heap.size := by omega
      have hne2 : ¬ w.heap.size = W1.heap.size := by omega
      clear hf hx hi hc
      go_enter Tryz.func62, Tryz.ntmps62
      go_wp2_with (fail)
      refine HFI.out.mono ?_
      rintro e w1 ⟨rfl, rfl⟩
      go_wp2_with (fail)
      go_region
      go_wp2_with (fail)
      have hmd := Whole.made W1 102 #[.string ⟨y.toArray⟩, .int .i64 (f : Int)]
      have hga := grows_alloc W1 (.cells #[.string ⟨y.toArray⟩, .int .i64 (f : Int)] 102)
      obtain ⟨W2, hW2⟩ : ∃ W2, (W1.alloc (.cells #[.string ⟨y.toArray⟩, .int .i64 (f : Int)] 102)).drew = W2 := ⟨_, rfl⟩
      have hgd : Grows (W1.alloc (.cells #[.string ⟨y.toArray⟩, .int .i64 (f : Int)] 102)) W2 := hW2 ▸ grows_drew _
      have HG2 := Lib.hid (show Grows W1 W2 from Grows.trans hga hgd)
      have HM2 := Lib.hid (hgd.whole hmd)
      rw [hW2]
      clear hmd hga hgd hW2 hW1
      have HCF := Lib.hid (show ∀ w', Grows W2 w' → w'.cell? { block := w.heap.size, off := 1 } = some (.string ⟨x.toArray⟩) ∧ w'.cell? { block := W1.heap.size, off := 0 } = some (.string ⟨y.toArray⟩) ∧ w'.cell? { block := W1.heap.size, off := 1 } = some (.int .i64 (f : Int)) from fun w' hg' =>
        ⟨((Grows.trans HG2.out hg').whole HO.out).cell 1, (hg'.whole HM2.out).cell 0, (hg'.whole HM2.out).cell 1⟩)
      have HDL := Lib.hid (show (Dir.del x l).length ≤ 100000 by
        have : (Dir.del x l).length ≤ l.length := List.length_filter_le _ _
        have := HL.out
        omega)
      clear c0 c1 c2 c4
      refine wp_region_facts_tail (E := Grows) 6 [valFact (.slice (some ⟨g, 0, none⟩) n c), valFact (.pointer (some ⟨w.heap.size, 1, none⟩)), valFact (.string ⟨x.toArray⟩), enFact w.heap.size (Dir.del x l), valFact ((.agg #[.string ⟨y.toArray⟩, .int .i64 (f : Int)])), enFact w.heap.size (rput (y, f) (Dir.del x l))] mixed (by kernel_rfl) (fun _ _ _ => Grows.trans) (grows_drew _) ?_
      simp only [List.take_succ_cons, List.take_zero, List.drop_succ_cons, List.drop_zero]
      refine f_val (.slice (some ⟨g, 0, none⟩) n c) (by rfl) ?_ ?_
      · intro w' hC; clear hC; first | (go_simp; done)
      simp only [Act.put, List.setIfInBounds_toArray, List.set_cons_zero, List.set_cons_succ]
      refine f_val (.pointer (some ⟨w.heap.size, 1, none⟩)) (by rfl) ?_ ?_
      · intro w' hC; clear hC; first | (go_simp; done)
      simp only [Act.put, List.setIfInBounds_toArray, List.set_cons_zero, List.set_cons_succ]
      refine f_val (.string ⟨x.toArray⟩) (by rfl) ?_ ?_
      · intro w' hC; obtain ⟨z1, z2, z3⟩ := HCF.out w' hC; clear hC; first | (go_simp; done)
      simp only [Act.put, List.setIfInBounds_toArray, List.set_cons_zero, List.set_cons_succ]
      refine f_en w.heap.size (Dir.del x l) 112 #[.slice (some ⟨g, 0, none⟩) n c, .string ⟨x.toArray⟩] (by rfl) (by intro w' hC; clear hC; go_simp) (Nat.le_trans HG0.out.size HG2.out.size) ?_ ?_
      · intro w' hC hks; exact rdrop_any w' (c := c) x (H.out.2.grow (Grows.trans HG0.out (Grows.trans HG2.out hC))) hn
      intro A1 c1
      simp only [Act.put, List.setIfInBounds_toArray, List.set_cons_zero, List.set_cons_succ]
      refine f_val ((.agg #[.string ⟨y.toArray⟩, .int .i64 (f : Int)])) (by rfl) ?_ ?_
      · intro w' hC; obtain ⟨z1, z2, z3⟩ := HCF.out w' hC; clear hC; first | (go_simp; done)
      simp only [Act.put, List.setIfInBounds_toArray, List.set_cons_zero, List.set_cons_succ]
      refine f_en w.heap.size (rput (y, f) (Dir.del x l)) 111 #[.slice A1 (Dir.del x l).length c1, (.agg #[.string ⟨y.toArray⟩, .int .i64 (f : Int)])] (by rfl) (by intro w' hC; clear hC; go_simp) (Nat.le_trans HG0.out.size HG2.out.size) ?_ ?_
      · intro w' hC hks; exact rput_any w' (c := c1) (y, f) (Rw.owned enL rfl (owned_from (Known.get hks 0 rfl rfl : w'.ownsRow w.heap.size 102 2 (.slice A1 (Dir.del x l).length c1) (Dir.del x l).length ((Dir.del x l).flatMap enC)) (Nat.zero_le _))) HDL.out
      intro A2 c2
      simp only [Act.put, List.setIfInBounds_toArray, List.set_cons_zero, List.set_cons_succ]
      refine wpF_end ?_
      intro w6 hC hks
      have HCw6 := Lib.hid hC
      have HK := Lib.hid (Known.at hks 0 rfl)
      clear hC hks
      refine list_assign8 rfl (.tmp 44) rfl ?_
      simp only [Act.put, List.setIfInBounds_toArray, List.set_cons_zero, List.set_cons_succ]
      go_wp2_with (fail)
      go_ret
      rw [HRD.out]
      exact ⟨_, rfl, owned_from HK.out (Nat.zero_le _), fun k hk => .inr (HK.out.lt k hk).1, Grows.trans (Grows.trans HG0.out HG2.out) HCw6.out⟩
end Go.Proofs.YtdkpbphgaenlnaaGreat

/-
  A change is done to the document's names, and is pending.
-/
namespace Go.Proofs.YtdkpbphgaenlnaaGreat
open Go.RowKit
set_option linter.unusedVariables false
set_option linter.unusedSimpArgs false
theorem infoOp : (Tryz.prog.info? 95).map (fun i => (i.zero, i.size, i.bytes)) = some (some (.agg #[.int .i64 0, .string ⟨#[]⟩, .string ⟨#[]⟩, .int .i64 0]), 4, 48) := by kernel_rfl
theorem chC_one (c : Ch) : ∀ u ∈ chC c, u.oneCell' = true := by
  intro u hu
  cases c <;> simp only [chC, List.mem_cons, List.not_mem_nil, or_false] at hu <;> rcases hu with rfl | rfl | rfl | rfl <;> simp [Value.oneCell']
/-- A value that is a row of names. -/
def doFact (w0 : World) (v0 : Value) (l : Dir) : Fact Grows := ⟨Value, .slice none 0 0, fun v => v, fun v w => w.ownsRow 0 102 2 v l.length (l.flatMap enC) ∧ ∀ k, v.ownBlock = some k → v0.ownBlock = some k ∨ w0.heap.size ≤ k, fun _ _ _ h g => ⟨owned_grow h.1 g, h.2⟩⟩
theorem f_do {P : Program} {ops : Array Oper} {W : World} {Q : Act → World → Prop} {o : Oper} {rest : List Oper} {fs : List (Fact Grows)} {ks : Known} {a : Act} (w0 : World) (v0 : Value) (l : Dir) (f : FuncId) (args : Array Value) (hw : Region.wanted o (yielded ops a.tmps) = true) (h1 : ∀ w, Grows W w → (execOp a.eval o).run P w = .ok (.enter f args) w)
    (hB : w0.heap.size ≤ W.heap.size) (hc : ∀ w, Grows W w → ks.for (o.looksAt ops) w → Calls P f args w fun e w' => RDoTo w v0 l e w')
    (h2 : ∀ v, wpF P ops Grows W Q rest fs ((o.dst, fun w => w.ownsRow 0 102 2 v l.length (l.flatMap enC) ∧ ∀ k, v.ownBlock = some k → v0.ownBlock = some k ∨ w0.heap.size ≤ k) :: ks) (a.put o.dst v)) :
    wpF P ops Grows W Q (o :: rest) (doFact w0 v0 l :: fs) ks a := by
  unfold wpF fStep
  rw [if_pos hw]
  refine ⟨fun w hW hk => ?_, fun x => h2 x⟩
  unfold gives
  rw [h1 w hW]
  refine (hc w hW hk).mono ?_
  rintro e w' ⟨v, rfl, hr, hb, hg⟩
  exact ⟨hg, v, rfl, hr, fun k hk => (hb k hk).imp id fun h => Nat.le_trans hB (Nat.le_trans hW.size h)⟩

/-- An append of structs to a row of one's own. -/
def appJobK (own : Nat → Prop) (base : Nat) (e : TypeId) (size : Nat) (v0 : Value) (B k : Nat) (xs : List Value) : Job Grows (Spares own) :=
  ⟨Option Addr × Nat, (none, 0), fun p => .slice p.1 k p.2, fun _ _ => True, fun _ _ _ _ _ => trivial, true, true,
    fun p w => w.ownsRow base e size (.slice p.1 k p.2) k xs ∧ ((Value.slice p.1 k p.2).ownBlock = v0.ownBlock ∨ ∃ g, (Value.slice p.1 k p.2).ownBlock = some g ∧ B ≤ g), fun _ _ _ h g => ⟨owned_grow h.1 g, h.2⟩⟩
theorem j_appendK {own : Nat → Prop} {P : Program} {ops : Array Oper} {W : World} {Q : Act → World → Prop} {o : Oper} {rest : List Oper} {js : List (Job Grows (Spares own))} {ks : Known} {C : World → Prop} {a : Act} (hw : Region.wanted o (yielded ops a.tmps) = true) (s x : Operand) (t : TypeId) (ho : o.op = .call { callee := .builtin .append, args := #[s, x], argTypes := #[t, t] })
    {base : Nat} {e : TypeId} {i : TypeInfo} {z : Value} {size bytes : Nat} (ht : P.underlying t = some (.slice e)) (hi : P.info? e = some i) (hz : i.zero = some z) (hsize : i.size = size) (hby : i.bytes = bytes) (hzs : z.cells.size = size) (hpos : 0 < size)
    {v0 : Value} {n : Nat} {xs : List Value} (hs : a.eval s = v0) (hcls : ∀ w, C w → w.ownsRow base e size v0 n xs) (hown : ∀ g, v0.ownBlock = some g → own g)
    {ad : Addr} {m c : Nat} {news : List Value} (hx : a.eval x = .slice (some ad) m c) (hl : news.length = m * size) (hr : ∀ w, Spares own W w → ks.for (o.looksAt ops) w → ∀ j u, news[j]? = some u → w.cell? (ad.add j) = some u) (h1 : ∀ u ∈ news, u.oneCell' = true)
    (k : Nat) (hk : n + m = k) (h63 : k ≤ maxLen) (hbytes : k * bytes ≤ 140737488355328) (hbase : base ≤ W.heap.size)
    (h : ∀ A' c', wpJ P ops W Q rest js ks (fun w => w.ownsRow base e size (.slice A' k c') k (xs ++ news) ∧ ((Value.slice A' k c').ownBlock = v0.ownBlock ∨ ∃ g, (Value.slice A' k c').ownBlock = some g ∧ W.heap.size ≤ g)) (a.put o.dst (.slice A' k c'))) :
    wpJ P ops W Q (o :: rest) (appJobK own base e size v0 W.heap.size k (xs ++ news) :: js) ks C a := by
  subst hk
  unfold wpJ jStep
  rw [if_pos hw]
  refine ⟨fun w hW hkn hC => ?_, fun p => wpJ_more _ _ ks _ _ _ (fun k hk => List.mem_cons_of_mem _ hk) (h p.1 p.2)⟩
  have hrow := hcls w (hC rfl)
  obtain ⟨v', w', hrun, h2, h3, _, h4⟩ := run_append_own_at (P := P) (w := w) base t o.type e i z size bytes ht hi hz hsize hby hzs hpos v0 n xs hrow ad m c news hl (hr w hW hkn) h1 h63 hbytes (Nat.le_trans hbase hW.size)
  obtain ⟨A', c', rfl⟩ := slice_own2 h2
  have hex : (execOp a.eval o).run P w = .ok (.value (.slice A' (n + m) c')) w' := by
    unfold execOp
    simp only [ho, resolve, invoke, builtin, Sem.run_bind, Sem.run_pure, Result.andThen_ok, List.map_toArray, List.map_cons, List.map_nil, hs, hx, hrun]
  rw [hex]
  refine ⟨(A', c'), rfl, trivial, fun _ => ⟨?_, h2, ?_⟩, fun h => by cases h⟩
  · exact ⟨h3.os, h3.tape, h3.output, h3.size, fun q hq ho => h3.block q hq fun e => ho (hown q e.symm)⟩
  · rcases h4 with h4 | h4
    · exact .inl h4
    · exact .inr ⟨_, h4, hW.size⟩
theorem RfAt.named {w w3 : World} {r : Nat} {own : Nat → Prop} {m : Rf} {fv nv kv pv v : Value} {l : Dir} (h : RfAt w r own m fv nv kv pv) (hg : Grows w w3) (hr : w3.ownsRow 0 102 2 v l.length (l.flatMap enC)) (hb : ∀ k, v.ownBlock = some k → nv.ownBlock = some k ∨ w.heap.size ≤ k) :
    RfAt (w3.setCell ⟨r, 2, none⟩ v) r (fun k => own k ∨ (w.heap.size ≤ k ∧ k < (w3.setCell ⟨r, 2, none⟩ v).heap.size)) { m with names := l } fv v kv pv ∧ Spares (fun k => k = r) w (w3.setCell ⟨r, 2, none⟩ v) := by
  have h3 := h.grow hg
  have hs : Spares (fun k => k = r) w3 (w3.setCell ⟨r, 2, none⟩ v) := (Spares.refl (fun k => k = r) w3).setCell (p := ⟨r, 2, none⟩) rfl v
  have keep : ∀ {e : TypeId} {k n : Nat} {u : Value} {xs : List Value}, w3.ownsRow 0 e k u n xs → e ≠ 77 → (w3.setCell ⟨r, 2, none⟩ v).ownsRow 0 e k u n xs := fun hr hne => row_same hr fun k hk => hs.same k (hr.lt k hk).2 fun e => top_unlike h3.top hr hne (e ▸ hk)
  have hk2 := keep hr (by decide)
  exact ⟨⟨h3.top.put 2 v, .inl h.ro, fun k hk => hk.elim (fun hk => Nat.lt_of_lt_of_le (h3.lt k hk) hs.size) (fun hk => hk.2), keep h3.files (by decide), fun k hk => .inl (h.fo k hk), hk2, fun k hk => (hb k hk).elim (fun e => .inl (h.no k e)) (fun e => .inr ⟨e, (hk2.lt k hk).2⟩), keep h3.kept (by decide), fun k hk => .inl (h.ko k hk), keep h3.pend (by decide), fun k hk => .inl (h.po k hk)⟩, (Spares.grows hg).trans hs⟩
theorem Spares.fresh {own own4 : Nat → Prop} {a b c : World} (h : Spares own a b) (k : Spares own4 b c) (h4 : ∀ q, own4 q → own q ∨ a.heap.size ≤ q) : Spares own a c :=
  ⟨k.os.trans h.os, k.tape.trans h.tape, k.output.trans h.output, Nat.le_trans h.size k.size, fun i hi ho => (k.same i (Nat.lt_of_lt_of_le hi h.size) fun e => (h4 i e).elim ho fun e => by omega).trans (h.same i hi ho)⟩
theorem row_unlike8 {w : World} {e e' : TypeId} {k k' n n' b b' g : Nat} {u v : Value} {xs ys : List Value} (h : w.ownsRow b e k u n xs) (h' : w.ownsRow b' e' k' v n' ys) (hne : e ≠ e') (hg : u.ownBlock = some g) : ¬ v.ownBlock = some g := fun hv => by
  obtain ⟨c1, e1⟩ := row_block h hg
  obtain ⟨c2, e2⟩ := row_block h' hv
  rw [e1] at e2
  injection e2 with e2
  injection e2 with _ e2 _
  exact hne e2
theorem RfAt.pended {w w6 : World} {r : Nat} {own : Nat → Prop} {m : Rf} {fv nv kv pv p' : Value} {ch : Ch} (h : RfAt w r own m fv nv kv pv) (hs : Spares (fun k => pv.ownBlock = some k) w w6) (hr : w6.ownsRow 0 95 4 p' (m.pend ++ [ch]).length ((m.pend ++ [ch]).flatMap chC))
    (hb : p'.ownBlock = pv.ownBlock ∨ ∃ g, p'.ownBlock = some g ∧ w.heap.size ≤ g) :
    RfAt (w6.setCell ⟨r, 4, none⟩ p') r (fun k => own k ∨ (w.heap.size ≤ k ∧ k < (w6.setCell ⟨r, 4, none⟩ p').heap.size)) { m with pend := m.pend ++ [ch] } fv nv kv p' ∧ Spares own w (w6.setCell ⟨r, 4, none⟩ p') := by
  have htop : Whole w6 r 77 (rCells m fv nv kv pv) := h.top.same (hs.same _ h.top.lt fun e => top_unlike h.top h.pend (by decide) e)
  have hs2 : Spares (fun k => k = r) w6 (w6.setCell ⟨r, 4, none⟩ p') := (Spares.refl (fun k => k = r) w6).setCell (p := ⟨r, 4, none⟩) rfl p'
  have keep : ∀ {e : TypeId} {k n : Nat} {u : Value} {xs : List Value}, w6.ownsRow 0 e k u n xs → e ≠ 77 → (w6.setCell ⟨r, 4, none⟩ p').ownsRow 0 e k u n xs := fun hr hne => row_same hr fun k hk => hs2.same k (hr.lt k hk).2 fun e => top_unlike htop hr hne (e ▸ hk)
  have keep1 : ∀ {e : TypeId} {k n : Nat} {u : Value} {xs : List Value}, w.ownsRow 0 e k u n xs → e ≠ 95 → w6.ownsRow 0 e k u n xs := fun hr hne => row_same hr fun k hk => hs.same k (hr.lt k hk).2 (row_unlike8 hr h.pend hne hk)
  have hk4 := keep hr (by decide)
  have hsz : w.heap.size ≤ (w6.setCell ⟨r, 4, none⟩ p').heap.size := Nat.le_trans hs.size hs2.size
  refine ⟨⟨htop.put 4 p', .inl h.ro, fun k hk => hk.elim (fun hk => Nat.lt_of_lt_of_le (h.lt k hk) hsz) (fun hk => hk.2), keep (keep1 h.files (by decide)) (by decide), fun k hk => .inl (h.fo k hk), keep (keep1 h.names (by decide)) (by decide), fun k hk => .inl (h.no k hk), keep (keep1 h.kept (by decide)) (by decide), fun k hk => .inl (h.ko k hk), hk4, fun k hk => ?_⟩,
    (hs.wider fun k _ e => h.po k e).trans (hs2.wider fun k _ e => e ▸ h.ro)⟩
  rcases hb with hb | ⟨g, hg, hge⟩
  · exact .inl (h.po k (hb ▸ hk))
  · rw [hg] at hk
    injection hk with hk
    subst hk
    exact .inr ⟨hge, (hk4.lt _ hg).2⟩
section
variable {w w' : World} {r : Nat} {own : Nat → Prop} {m m' : Rf} {fv nv kv pv : Value}
set_option maxHeartbeats 4000000 in
set_option maxRecDepth 100000 in
theorem rnames_any (w : World) (ch : Ch) (h : RfAt w r own m fv nv kv pv) (hF : m.names.length ≤ 100000 ∧ m.pend.length ≤ 100000) :
    Calls Tryz.prog 73 #[.pointer (some ⟨r, 0, none⟩), .agg (chC ch).toArray] w fun e w' => e = .returned (.tuple #[]) ∧ RfTo w r own w' (m.change ch) := by
  obtain ⟨i1, hi1, hz1, hy1, hb1⟩ := info_parts infoOp
  have HI1 := Lib.hid (And.intro hi1 (And.intro hz1 (And.intro hy1 hb1)))
  obtain ⟨A, c, hA⟩ := slice_own2 h.names
  obtain ⟨PA, pc, hPA⟩ := slice_own2 h.pend
  have HA := Lib.hid (And.intro hA hPA)
  have H := Lib.hid h
  have HF := Lib.hid hF
  obtain ⟨W1, hW1⟩ : ∃ W1, w.alloc (.cells (chC ch).toArray 95) = W1 := ⟨_, rfl⟩
  have HG0 := Lib.hid (show Grows w W1 from hW1 ▸ grows_alloc _ _)
  have HO := Lib.hid (show Whole W1 w.heap.size 95 (chC ch).toArray from hW1 ▸ Whole.made _ _ _)
  clear h hi1 hz1 hy1 hb1 hA hPA hF
  obtain ⟨va, vb, vc, vd, hch⟩ : ∃ va vb vc vd, chC ch = [va, vb, vc, vd] := by cases ch <;> exact ⟨_, _, _, _, rfl⟩
  have HCH := Lib.hid hch
  have hO2 := HO.out
  rw [hch] at hO2 hW1 ⊢
  have HO2 := Lib.hid (show Whole W1 w.heap.size 95 #[va, vb, vc, vd] from hO2)
  change w.alloc (.cells #[va, vb, vc, vd] 95) = W1 at hW1
  change Calls Tryz.prog 73 #[.pointer (some ⟨r, 0, none⟩), .agg #[va, vb, vc, vd]] w _
  have hdo := fun (w' : World) (hg : Grows W1 w') => rdoes_any w' (A := A) (c := c) (l := m.names) (n := m.names.length) ch (HA.out.1 ▸ owned_grow H.out.names (Grows.trans HG0.out hg)) rfl HF.out.1
  rw [hch] at hdo
  have HDO := Lib.hid (show ∀ w', Grows W1 w' → Calls Tryz.prog 62 #[.slice A m.names.length c, .agg #[va, vb, vc, vd]] w' fun e w'' => RDoTo w' (.slice A m.names.length c) (rdoes ch m.names) e w'' from hdo)
  clear hO2 hdo hch
  have HCF := Lib.hid (show ∀ w', Grows W1 w' → w'.cell? { block := r, off := 2 } = some (.slice A m.names.length c) ∧ w'.cell? { block := w.heap.size, off := 0 } = some va ∧ w'.cell? { block := w.heap.size, off := 1 } = some vb ∧ w'.cell? { block := w.heap.size, off := 2 } = some vc ∧ w'.cell? { block := w.heap.size, off := 3 } = some vd from fun w' hg' =>
    ⟨HA.out.1 ▸ ((Grows.trans HG0.out hg').whole H.out.top).cell 2, (hg'.whole HO2.out).cell 0, (hg'.whole HO2.out).cell 1, (hg'.whole HO2.out).cell 2, (hg'.whole HO2.out).cell 3⟩)
  go_enter Tryz.func73, Tryz.ntmps73
  go_wp2_with (fail)
  clear hW1
  refine wp_region_facts_tail (E := Grows) 9 [valFact (.pointer (some ⟨r, 0, none⟩)), valFact (.pointer (some ⟨r, 0, none⟩)), valFact (.pointer (some ⟨r, 0, none⟩)), valFact (.pointer (some ⟨r, 2, none⟩)), valFact (.slice A m.names.length c), valFact (.agg #[va, vb, vc, vd]), doFact w (.slice A m.names.length c) (rdoes ch m.names), valFact (.pointer (some ⟨r, 0, none⟩)), valFact (.pointer (some ⟨r, 2, none⟩))] mixed (by kernel_rfl) (fun _ _ _ => Grows.trans) (grows_drew _) ?_
  simp only [List.take_succ_cons, List.take_zero, List.drop_succ_cons, List.drop_zero]
  refine f_val (.pointer (some ⟨r, 0, none⟩)) (by rfl) ?_ ?_
  · intro w' hC; clear hC; first | (go_simp; done)
  simp only [Act.put, List.setIfInBounds_toArray, List.set_cons_zero, List.set_cons_succ]
  refine f_val (.pointer (some ⟨r, 0, none⟩)) (by rfl) ?_ ?_
  · intro w' hC; clear hC; first | (go_simp; done)
  simp only [Act.put, List.setIfInBounds_toArray, List.set_cons_zero, List.set_cons_succ]
  refine f_val (.pointer (some ⟨r, 0, none⟩)) (by rfl) ?_ ?_
  · intro w' hC; clear hC; first | (go_simp; done)
  simp only [Act.put, List.setIfInBounds_toArray, List.set_cons_zero, List.set_cons_succ]
  refine f_val (.pointer (some ⟨r, 2, none⟩)) (by rfl) ?_ ?_
  · intro w' hC; clear hC; first | (go_simp; done)
  simp only [Act.put, List.setIfInBounds_toArray, List.set_cons_zero, List.set_cons_succ]
  refine f_val (.slice A m.names.length c) (by rfl) ?_ ?_
  · intro w' hC; obtain ⟨z1, z2, z3, z4, z5⟩ := HCF.out w' hC; clear hC; first | (go_simp; done)
  simp only [Act.put, List.setIfInBounds_toArray, List.set_cons_zero, List.set_cons_succ]
  refine f_val (.agg #[va, vb, vc, vd]) (by rfl) ?_ ?_
  · intro w' hC; obtain ⟨z1, z2, z3, z4, z5⟩ := HCF.out w' hC; clear hC; first | (go_simp; done)
  simp only [Act.put, List.setIfInBounds_toArray, List.set_cons_zero, List.set_cons_succ]
  refine f_do w (.slice A m.names.length c) (rdoes ch m.names) 62 #[.slice A m.names.length c, .agg #[va, vb, vc, vd]] (by rfl) (by intro w' hC; clear hC; go_simp) HG0.out.size ?_ ?_
  · intro w' hC hks; exact HDO.out w' hC
  intro nv2
  simp only [Act.put, List.setIfInBounds_toArray, List.set_cons_zero, List.set_cons_succ]
  refine f_val (.pointer (some ⟨r, 0, none⟩)) (by rfl) ?_ ?_
  · intro w' hC; clear hC; first | (go_simp; done)
  simp only [Act.put, List.setIfInBounds_toArray, List.set_cons_zero, List.set_cons_succ]
  refine f_val (.pointer (some ⟨r, 2, none⟩)) (by rfl) ?_ ?_
  · intro w' hC; clear hC; first | (go_simp; done)
  simp only [Act.put, List.setIfInBounds_toArray, List.set_cons_zero, List.set_cons_succ]
  refine wpF_end ?_
  intro w3 hC hks
  have HCw3 := Lib.hid hC
  have HK := Lib.hid (Known.at hks 0 rfl)
  clear hC hks
  have hcr : w3.cell? ⟨r, 2, none⟩ = some (.slice A m.names.length c) := (HCF.out w3 HCw3.out).1
  have hfr : w3.frozen? ⟨r, 2, none⟩ = false := ((Grows.trans HG0.out HCw3.out).whole H.out.top).free 2
  obtain ⟨A2, c2, rfl⟩ := slice_own2 HK.out.1
  have HNM := Lib.hid (H.out.named (Grows.trans HG0.out HCw3.out) HK.out.1 (fun k hk => (HK.out.2 k hk).imp (fun h => HA.out.1.symm ▸ h) id))
  go_wp2_with (fail)
  obtain ⟨W4, hW4⟩ : ∃ W4, w3.setCell { block := r, off := 2 } (.slice A2 (rdoes ch m.names).length c2) = W4 := ⟨_, rfl⟩
  have hnm := HNM.out
  rw [show (⟨r, 2, none⟩ : Addr) = { block := r, off := 2 } from rfl, hW4] at hnm
  have H4 := Lib.hid hnm
  have HGO := Lib.hid (show Whole W4 w.heap.size 95 #[va, vb, vc, vd] from (HCw3.out.whole HO2.out).same (hW4 ▸ ((Spares.refl (fun k => k = r) w3).setCell (p := ⟨r, 2, none⟩) rfl _).same _ (HCw3.out.whole HO2.out).lt (fun e => by have := H.out.lt r H.out.ro; omega)))
  rw [hW4]
  clear hW4 hnm HNM HDO HCF HK hcr hfr
  have hpl : ∀ k, pv.ownBlock = some k → own k := H.out.po
  have hpr : ¬ pv.ownBlock = some r := fun e => top_unlike H.out.top H.out.pend (by decide) e
  have hpw : ¬ pv.ownBlock = some w.heap.size := fun e => by have := H.out.lt _ (hpl _ e); omega
  have HPB := Lib.hid (And.intro hpl (And.intro hpr hpw))
  have HCF := Lib.hid (show ∀ w', Spares (fun k => pv.ownBlock = some k) W4 w' → w'.cell? { block := r, off := 4 } = some (.slice PA m.pend.length pc) ∧ w'.cell? { block := w.heap.size, off := 0 } = some va ∧ w'.cell? { block := w.heap.size, off := 1 } = some vb ∧ w'.cell? { block := w.heap.size, off := 2 } = some vc ∧ w'.cell? { block := w.heap.size, off := 3 } = some vd from fun w' hs' =>
    ⟨HA.out.2 ▸ (H4.out.1.top.same (hs'.same _ H4.out.1.top.lt HPB.out.2.1)).cell 4, (HGO.out.same (hs'.same _ HGO.out.lt HPB.out.2.2)).cell 0, (HGO.out.same (hs'.same _ HGO.out.lt HPB.out.2.2)).cell 1, (HGO.out.same (hs'.same _ HGO.out.lt HPB.out.2.2)).cell 2, (HGO.out.same (hs'.same _ HGO.out.lt HPB.out.2.2)).cell 3⟩)
  have HLK := Lib.hid (show ∀ k, pv.ownBlock = some k → k < W4.heap.size from fun k hk => H4.out.1.lt k (.inl (HPB.out.1 k hk)))
  clear hpl hpr hpw
  refine wp_region_jobs (G := Grows) (E := Spares (fun k => pv.ownBlock = some k)) 10 [valJob (fun k => pv.ownBlock = some k) (.pointer (some ⟨r, 0, none⟩)), valJob (fun k => pv.ownBlock = some k) (.pointer (some ⟨r, 0, none⟩)), valJob (fun k => pv.ownBlock = some k) (.pointer (some ⟨r, 0, none⟩)), valJob (fun k => pv.ownBlock = some k) (.pointer (some ⟨r, 4, none⟩)), valJob (fun k => pv.ownBlock = some k) (.slice PA m.pend.length pc), valJob (fun k => pv.ownBlock = some k) (.agg #[va, vb, vc, vd]), blkJob (fun k => pv.ownBlock = some k) (95) (#[va, vb, vc, vd]) 1, appJobK (fun k => pv.ownBlock = some k) 0 (95) 4 (.slice PA m.pend.length pc) W4.heap.size (m.pend.length + 1) (m.pend.flatMap chC ++ [va, vb, vc, vd]), valJob (fun k => pv.ownBlock = some k) (.pointer (some ⟨r, 0, none⟩)), valJob (fun k => pv.ownBlock = some k) (.pointer (some ⟨r, 4, none⟩))] [(false, false), (false, false), (false, false), (false, false), (false, false), (false, false), (false, false), (true, true), (false, false), (false, false)] (fun w' => w'.ownsRow 0 95 4 (.slice PA m.pend.length pc) m.pend.length (m.pend.flatMap chC)) rfl mixed (by kernel_rfl) (fun _ _ => Spares.grows) (fun _ _ _ => Spares.trans) (spares_drew _ _) (HA.out.2 ▸ owned_grow H4.out.1.pend (grows_drew _)) (fun _ _ h hg => owned_grow h hg) ?_
  simp only [List.take_succ_cons, List.take_zero, List.drop_succ_cons, List.drop_zero]
  refine j_val (.pointer (some ⟨r, 0, none⟩)) (by rfl) ?_ ?_
  · intro w' hC; clear hC; first | (go_simp; done)
  simp only [Act.put, List.setIfInBounds_toArray, List.set_cons_zero, List.set_cons_succ]
  refine j_val (.pointer (some ⟨r, 0, none⟩)) (by rfl) ?_ ?_
  · intro w' hC; clear hC; first | (go_simp; done)
  simp only [Act.put, List.setIfInBounds_toArray, List.set_cons_zero, List.set_cons_succ]
  refine j_val (.pointer (some ⟨r, 0, none⟩)) (by rfl) ?_ ?_
  · intro w' hC; clear hC; first | (go_simp; done)
  simp only [Act.put, List.setIfInBounds_toArray, List.set_cons_zero, List.set_cons_succ]
  refine j_val (.pointer (some ⟨r, 4, none⟩)) (by rfl) ?_ ?_
  · intro w' hC; clear hC; first | (go_simp; done)
  simp only [Act.put, List.setIfInBounds_toArray, List.set_cons_zero, List.set_cons_succ]
  refine j_val (.slice PA m.pend.length pc) (by rfl) ?_ ?_
  · intro w' hC; obtain ⟨z1, z2, z3, z4, z5⟩ := HCF.out w' hC; clear hC; first | (go_simp; done)
  simp only [Act.put, List.setIfInBounds_toArray, List.set_cons_zero, List.set_cons_succ]
  refine j_val (.agg #[va, vb, vc, vd]) (by rfl) ?_ ?_
  · intro w' hC; obtain ⟨z1, z2, z3, z4, z5⟩ := HCF.out w' hC; clear hC; first | (go_simp; done)
  simp only [Act.put, List.setIfInBounds_toArray, List.set_cons_zero, List.set_cons_succ]
  refine j_made (95) (#[va, vb, vc, vd]) 1 (HLK.out) (by rfl) ?_ ?_
  · intro w' hC; clear hC; go_simp
  intro gm
  simp only [Act.put, List.setIfInBounds_toArray, List.set_cons_zero, List.set_cons_succ]
  refine j_appendK (by rfl) (.tmp 17) (.tmp 19) 75 rfl (i := i1) (z := .agg #[.int .i64 0, .string ⟨#[]⟩, .string ⟨#[]⟩, .int .i64 0]) (bytes := 48) Tryz.underlying75 HI1.out.1 HI1.out.2.1 HI1.out.2.2.1 HI1.out.2.2.2 rfl (by decide) (n := m.pend.length) rfl (fun w' hcl => hcl) (fun g hg => HA.out.2 ▸ hg)
    (ad := ⟨gm, 0, none⟩) (m := 1) (c := 1) rfl rfl (fun w' hs' hks j u hj => by
      have hwm := (Known.get hks 0 rfl rfl : Whole w' gm 95 #[va, vb, vc, vd] ∧ _).1
      rw [show (⟨gm, 0, none⟩ : Addr).add j = ⟨gm, j, none⟩ by unfold Addr.add; split <;> simp_all, hwm.cell j]
      simpa using hj) (fun u hu => chC_one ch u (HCH.out.symm ▸ hu)) (m.pend.length + 1) rfl (by unfold maxLen; have := HF.out.2; omega) (by have := HF.out.2; omega) (Nat.zero_le _) ?_
  intro PB pd
  simp only [Act.put, List.setIfInBounds_toArray, List.set_cons_zero, List.set_cons_succ]
  refine j_val (.pointer (some ⟨r, 0, none⟩)) (by rfl) ?_ ?_
  · intro w' hC; clear hC; first | (go_simp; done)
  simp only [Act.put, List.setIfInBounds_toArray, List.set_cons_zero, List.set_cons_succ]
  refine j_val (.pointer (some ⟨r, 4, none⟩)) (by rfl) ?_ ?_
  · intro w' hC; clear hC; first | (go_simp; done)
  simp only [Act.put, List.setIfInBounds_toArray, List.set_cons_zero, List.set_cons_succ]
  refine wpJ_end ?_
  intro w6 hC hks hcls
  have HCw6 := Lib.hid hC
  have HLw6 := Lib.hid hcls
  clear hC hks hcls
  have hcr : w6.cell? ⟨r, 4, none⟩ = some (.slice PA m.pend.length pc) := (HCF.out w6 HCw6.out).1
  have hfr : w6.frozen? ⟨r, 4, none⟩ = false := (H4.out.1.top.same (HCw6.out.same _ H4.out.1.top.lt HPB.out.2.1)).free 4
  go_wp2_with (fail)
  go_end0
  have hrow := HLw6.out.1
  rw [← HCH.out] at hrow
  have hpe := H4.out.1.pended (p' := .slice PB (m.pend.length + 1) pd) (ch := ch) HCw6.out (by
    rw [List.length_append, List.flatMap_append]
    show w6.ownsRow 0 95 4 _ (m.pend.length + 1) (m.pend.flatMap chC ++ (chC ch ++ []))
    rw [List.append_nil]
    exact hrow) (HLw6.out.2.imp (fun h => HA.out.2.symm ▸ h) id)
  refine ⟨rfl, _, _, _, _, _, hpe.1, ?_, fun k hk => ?_⟩
  · exact (H4.out.2.wider fun k _ e => e ▸ H.out.ro).fresh hpe.2 fun q e => e.imp id fun e => e.1
  · rcases hk with (hk | hk) | hk
    · exact .inl hk
    · exact .inr hk.1
    · exact .inr (Nat.le_trans H4.out.2.size hk.1)
end
end Go.Proofs.YtdkpbphgaenlnaaGreat

/-
  The document's disk: Remove, Rename, SyncDir.
-/
namespace Go.Proofs.YtdkpbphgaenlnaaGreat
open Go.RowKit
set_option linter.unusedVariables false
set_option linter.unusedSimpArgs false
section
variable {w w' : World} {r : Nat} {own : Nat → Prop} {m m' : Rf} {fv nv kv pv : Value}
theorem RfTo.trans {w w1 w2 : World} {own1 : Nat → Prop} {m2 : Rf} (hs : Spares own w w1) (ho : ∀ k, own1 k → own k ∨ w.heap.size ≤ k) (h : RfTo w1 r own1 w2 m2) : RfTo w r own w2 m2 := by
  obtain ⟨own2, a, b, c, d, h1, h2, h3⟩ := h
  exact ⟨own2, a, b, c, d, h1, hs.fresh h2 ho, fun k hk => (h3 k hk).elim (ho k) fun e => .inr (Nat.le_trans hs.size e)⟩
theorem RfTo.behind {w w1 w2 : World} {m2 : Rf} (hro : own r) (hs : Spares (fun k => k = r) w w1) (h : RfTo w1 r own w2 m2) : RfTo w r own w2 m2 := RfTo.trans (hs.wider fun k _ e => e ▸ hro) (fun k hk => .inl hk) h
theorem thing_keep (m : Rf) : m.thing.1.files = m.files ∧ m.thing.1.names = m.names ∧ m.thing.1.kept = m.kept ∧ m.thing.1.pend = m.pend ∧ m.thing.1.most = m.most := by
  unfold Rf.thing
  split
  · exact ⟨rfl, rfl, rfl, rfl, rfl⟩
  · split <;> exact ⟨rfl, rfl, rfl, rfl, rfl⟩
def RDid (w : World) (r : Nat) (own : Nat → Prop) (x : Rf × Int) (e : Ending) (w' : World) : Prop := e = .returned (.int .i64 x.2) ∧ RfTo w r own w' x.1

set_option maxHeartbeats 4000000 in
set_option maxRecDepth 100000 in
theorem rremove_any (w : World) (n : Nm) (h : RfAt w r own m fv nv kv pv) (hF : RfFit m) : Calls Tryz.prog 52 #[.pointer (some ⟨r, 0, none⟩), .string ⟨n.toArray⟩] w fun e w' => RDid w r own (m.remove n) e w' := by
  have c8 : w.cell? ⟨r, 8, none⟩ = some (.bool m.down) := h.cell 8
  obtain ⟨A, c, hA, hrw⟩ := h.namesRw
  have c2 : w.cell? ⟨r, 2, none⟩ = some (.slice A m.names.length c) := by rw [← hA]; exact h.cell 2
  have HFI := Lib.hid (rfind_any w (c := c) n hrw (by have := hF.names; omega))
  have HTH := Lib.hid (rthing_any w h ⟨hF.nums.1.2, hF.nums.2.2⟩)
  have H := Lib.hid h
  have HF := Lib.hid hF
  unfold Rf.remove
  cases hd : m.down with
  | true =>
    rw [hd] at c8
    rw [if_pos rfl]
    clear h hF hA hrw c2 HFI hd HTH
    go_enter Tryz.func52, Tryz.ntmps52
    go_wp2
    go_ret
    exact ⟨rfl, RfTo.same H.out (Spares.refl _ _) H.out.ro⟩
  | false =>
  rw [hd] at c8
  rw [if_neg (by decide)]
  rcases fidx_find (n := n) (l := m.names) with ⟨hf, hx'⟩ | ⟨i, f, hf, hx', hi⟩
  · rw [hf]
    dsimp only
    rw [hx'] at HFI
    clear h hA hrw hf hx' hF hd HTH
    go_enter Tryz.func52, Tryz.ntmps52
    go_wp2_with (fail)
    refine HFI.out.mono ?_
    rintro e w1 ⟨rfl, rfl⟩
    go_wp2_with (fail)
    go_ret
    exact ⟨rfl, RfTo.same H.out (Spares.refl _ _) H.out.ro⟩
  rw [hf]
  dsimp only
  rw [hx'] at HFI
  have hi0 : ¬ ((i : Int) < 0) := by omega
  obtain ⟨tc, htc⟩ : ∃ tc, m.thing.2 = tc := ⟨_, rfl⟩
  rw [htc] at HTH
  have HTC := Lib.hid htc
  by_cases hz : tc = 0
  · rw [if_pos (show m.thing.2 = 0 by rw [htc]; exact hz)]
    subst hz
    clear h hA hrw hf hx' hF hi hd htc
    go_enter Tryz.func52, Tryz.ntmps52
    go_wp2_with (fail)
    refine HFI.out.mono ?_
    rintro e w1 ⟨rfl, rfl⟩
    go_wp2_with (fail)
    refine HTH.out.mono ?_
    rintro e w2 ⟨rfl, X, hX, hat, hs⟩
    have HAT := Lib.hid (And.intro hat hs)
    have hnm := rnames_any w2 (.taken n) hat (by rw [hX]; have := thing_keep m; rw [this.2.1, this.2.2.2.1]; exact ⟨HF.out.names, HF.out.pend⟩)
    have HNM := Lib.hid (show Calls Tryz.prog 73 #[.pointer (some ⟨r, 0, none⟩), .agg #[.int .i64 3, .string ⟨n.toArray⟩, .string ⟨#[]⟩, .int .i64 0]] w2 fun e w' => e = .returned (.tuple #[]) ∧ RfTo w2 r own w' (X.change (.taken n)) from hnm)
    have HX := Lib.hid hX
    clear hnm hat hs hX
    go_wp2_with (fail)
    refine HNM.out.mono ?_
    rintro e w3 ⟨rfl, hto⟩
    have HTO := Lib.hid hto
    clear hto
    go_wp2_with (fail)
    go_ret
    rw [← HX.out]
    exact ⟨rfl, RfTo.behind H.out.ro HAT.out.2 HTO.out⟩
  · rw [if_neg (show ¬ m.thing.2 = 0 by rw [htc]; exact hz)]
    have hzb : (tc == 0) = false := by rw [beq_eq_false_iff_ne]; exact hz
    clear h hA hrw hf hx' hF hi hd htc
    go_enter Tryz.func52, Tryz.ntmps52
    go_wp2_with (fail)
    refine HFI.out.mono ?_
    rintro e w1 ⟨rfl, rfl⟩
    go_wp2_with (fail)
    refine HTH.out.mono ?_
    rintro e w2 ⟨rfl, X, hX, hat, hs⟩
    have HAT := Lib.hid (And.intro hat hs)
    have HX := Lib.hid hX
    clear hat hs hX
    go_wp2_with (fail)
    go_ret
    refine ⟨by rw [HTC.out]; rfl, ?_⟩
    rw [← HX.out]
    exact RfTo.same HAT.out.1 HAT.out.2 H.out.ro

set_option maxHeartbeats 4000000 in
set_option maxRecDepth 100000 in
theorem rrename_any (w : World) (n to : Nm) (h : RfAt w r own m fv nv kv pv) (hF : RfFit m) : Calls Tryz.prog 56 #[.pointer (some ⟨r, 0, none⟩), .string ⟨n.toArray⟩, .string ⟨to.toArray⟩] w fun e w' => RDid w r own (m.rename n to) e w' := by
  have c8 : w.cell? ⟨r, 8, none⟩ = some (.bool m.down) := h.cell 8
  obtain ⟨A, c, hA, hrw⟩ := h.namesRw
  have c2 : w.cell? ⟨r, 2, none⟩ = some (.slice A m.names.length c) := by rw [← hA]; exact h.cell 2
  have HFI := Lib.hid (rfind_any w (c := c) n hrw (by have := hF.names; omega))
  have HTH := Lib.hid (rthing_any w h ⟨hF.nums.1.2, hF.nums.2.2⟩)
  have H := Lib.hid h
  have HF := Lib.hid hF
  unfold Rf.rename
  cases hd : m.down with
  | true =>
    rw [hd] at c8
    rw [if_pos rfl]
    clear h hF hA hrw c2 HFI hd HTH
    go_enter Tryz.func56, Tryz.ntmps56
    go_wp2
    go_ret
    exact ⟨rfl, RfTo.same H.out (Spares.refl _ _) H.out.ro⟩
  | false =>
  rw [hd] at c8
  rw [if_neg (by decide)]
  rcases fidx_find (n := n) (l := m.names) with ⟨hf, hx'⟩ | ⟨i, f, hf, hx', hi⟩
  · rw [hf]
    dsimp only
    rw [hx'] at HFI
    clear h hA hrw hf hx' hF hd HTH
    go_enter Tryz.func56, Tryz.ntmps56
    go_wp2_with (fail)
    refine HFI.out.mono ?_
    rintro e w1 ⟨rfl, rfl⟩
    go_wp2_with (fail)
    go_ret
    exact ⟨rfl, RfTo.same H.out (Spares.refl _ _) H.out.ro⟩
  rw [hf]
  dsimp only
  rw [hx'] at HFI
  have hi0 : ¬ ((i : Int) < 0) := by omega
  have HRT := Lib.hid (rright_any to w)
  have hq : (to == n) = decide (to = n) := by by_cases h : to = n <;> simp [h]
  by_cases hr : right to = false
  · rw [if_pos (.inl hr)]
    rw [hr] at HRT
    clear h hA hrw hf hx' hF hi hd HTH
    go_enter Tryz.func56, Tryz.ntmps56
    go_wp2_with (fail)
    refine HFI.out.mono ?_
    rintro e w1 ⟨rfl, rfl⟩
    go_wp2_with (fail)
    refine HRT.out.mono ?_
    rintro e w1 ⟨rfl, rfl⟩
    go_wp2_with (fail)
    go_ret
    exact ⟨rfl, RfTo.same H.out (Spares.refl _ _) H.out.ro⟩
  have hr1 : right to = true := by simpa using hr
  rw [hr1] at HRT
  by_cases htn : to = n
  · rw [if_pos (.inr htn)]
    have hqb : (to == n) = true := by rw [beq_iff_eq]; exact htn
    clear h hA hrw hf hx' hF hi hd HTH hq htn
    go_enter Tryz.func56, Tryz.ntmps56
    go_wp2_with (fail)
    refine HFI.out.mono ?_
    rintro e w1 ⟨rfl, rfl⟩
    go_wp2_with (fail)
    refine HRT.out.mono ?_
    rintro e w1 ⟨rfl, rfl⟩
    go_wp2_with (fail)
    go_ret
    exact ⟨rfl, RfTo.same H.out (Spares.refl _ _) H.out.ro⟩
  have hqb : (to == n) = false := by rw [beq_eq_false_iff_ne]; exact htn
  rw [if_neg (fun h => h.elim hr htn)]
  clear hq htn hr hr1
  obtain ⟨tc, htc⟩ : ∃ tc, m.thing.2 = tc := ⟨_, rfl⟩
  rw [htc] at HTH
  have HTC := Lib.hid htc
  by_cases hz : tc = 0
  · rw [if_pos (show m.thing.2 = 0 by rw [htc]; exact hz)]
    subst hz
    clear h hA hrw hf hx' hF hi hd htc
    go_enter Tryz.func56, Tryz.ntmps56
    go_wp2_with (fail)
    refine HFI.out.mono ?_
    rintro e w1 ⟨rfl, rfl⟩
    go_wp2_with (fail)
    refine HRT.out.mono ?_
    rintro e w1 ⟨rfl, rfl⟩
    go_wp2_with (fail)
    refine HTH.out.mono ?_
    rintro e w2 ⟨rfl, X, hX, hat, hs⟩
    have HAT := Lib.hid (And.intro hat hs)
    have hnm := rnames_any w2 (.moved n to) hat (by rw [hX]; have := thing_keep m; rw [this.2.1, this.2.2.2.1]; exact ⟨HF.out.names, HF.out.pend⟩)
    have HNM := Lib.hid (show Calls Tryz.prog 73 #[.pointer (some ⟨r, 0, none⟩), .agg #[.int .i64 2, .string ⟨n.toArray⟩, .string ⟨to.toArray⟩, .int .i64 0]] w2 fun e w' => e = .returned (.tuple #[]) ∧ RfTo w2 r own w' (X.change (.moved n to)) from hnm)
    have HX := Lib.hid hX
    clear hnm hat hs hX
    go_wp2_with (fail)
    refine HNM.out.mono ?_
    rintro e w3 ⟨rfl, hto⟩
    have HTO := Lib.hid hto
    clear hto
    go_wp2_with (fail)
    go_ret
    rw [← HX.out]
    exact ⟨rfl, RfTo.behind H.out.ro HAT.out.2 HTO.out⟩
  · rw [if_neg (show ¬ m.thing.2 = 0 by rw [htc]; exact hz)]
    have hzb : (tc == 0) = false := by rw [beq_eq_false_iff_ne]; exact hz
    clear h hA hrw hf hx' hF hi hd htc
    go_enter Tryz.func56, Tryz.ntmps56
    go_wp2_with (fail)
    refine HFI.out.mono ?_
    rintro e w1 ⟨rfl, rfl⟩
    go_wp2_with (fail)
    refine HRT.out.mono ?_
    rintro e w1 ⟨rfl, rfl⟩
    go_wp2_with (fail)
    refine HTH.out.mono ?_
    rintro e w2 ⟨rfl, X, hX, hat, hs⟩
    have HAT := Lib.hid (And.intro hat hs)
    have HX := Lib.hid hX
    clear hat hs hX
    go_wp2_with (fail)
    go_ret
    refine ⟨by rw [HTC.out]; rfl, ?_⟩
    rw [← HX.out]
    exact RfTo.same HAT.out.1 HAT.out.2 H.out.ro
end
end Go.Proofs.YtdkpbphgaenlnaaGreat
