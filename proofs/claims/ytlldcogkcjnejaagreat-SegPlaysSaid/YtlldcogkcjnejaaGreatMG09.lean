import Derived.Test.YtlldcogkcjnejaaGreatMG08
import Derived.Test.YtlldcogkcjnejaaGreatMG00
import Derived.Test.YtlldcogkcjnejaaGreatMG07
set_option linter.unusedVariables false
set_option linter.unusedSimpArgs false
namespace Go.Proofs.YtlldcogkcjnejaaGreat
open Go.RowKit
section
variable {m : Dk} {x : Rf} {K : Nat}
theorem S_fun {ln ln' : Nat → Nat} {l : Dir} (h : ∀ i ∈ V l, ln' i = ln i) : S ln' l = S ln l := Zl9 h
theorem Gl.made (h : Gl m x) : Gl { m with files := fun j => if j = m.made then ⟨[], 0⟩ else m.files j, made := m.made + 1 } { x with files := x.files ++ [⟨[], 0⟩] } := by
 refine ⟨h.most, ?_, h.names, h.kept, h.pend, h.did, h.fail, h.cut, h.down, h.redo, h.srt, h.uniq, fun i hi => Nat.lt_succ_of_lt (h.lt i hi), fun i hi => ?_, ?_, h.top⟩
 ·show (x.files ++ [(⟨[], 0⟩ : Fl)]).length = m.made + 1
  rw [List.length_append, h.len]
  rfl
 ·show (x.files ++ [(⟨[], 0⟩ : Fl)]).getD i ⟨[], 0⟩ = if i = m.made then ⟨[], 0⟩ else m.files i
  have hi' := h.lt i hi
  rw [if_neg (by omega), List.getD_eq_getElem?_getD, List.getElem?_append_left (by rw [h.len]; exact hi'), ← List.getD_eq_getElem?_getD]
  exact h.same i hi
 ·show m.used = (S (fun i => (if i = m.made then (⟨[], 0⟩ : Fl) else m.files i).bytes.length) m.names : Nat)
  rw [S_fun (ln := fun i => (m.files i).bytes.length) (ln' := fun i => (if i = m.made then (⟨[], 0⟩ : Fl) else m.files i).bytes.length) (l := m.names) fun i hi => by
   have := h.lt i (h.valN.2 i hi)
   show (if i = m.made then _ else _ : Fl).bytes.length = _
   rw [if_neg (by omega)]]
  exact h.used
theorem Gl.create (h : Gl m x) (n : Nm) : (x.create n).2 = (m.create n).2 ∧ Gl (m.create n).1 (x.create n).1 := by
 unfold Rf.create Dk.create
 rw [h.down, h.names]
 cases hd : m.down with
 | true => exact ⟨rfl, h⟩
 | false =>
   by_cases hr : right n = false
   ·simp only [Bool.false_eq_true, if_false, if_pos hr]
    exact ⟨trivial, h⟩
   ·simp only [Bool.false_eq_true, if_false, if_neg hr]
    cases hf : Dir.find n m.names with
    | some f => exact ⟨rfl, h⟩
    | none =>
      by_cases hl : 4096 ≤ m.names.length
      ·simp only [Option.isSome, Bool.false_eq_true, if_false, if_pos hl]
       exact ⟨trivial, h⟩
      ·simp only [Option.isSome, Bool.false_eq_true, if_false, if_neg hl]
       refine h.thing hd (Dk.doCreate n) _ fun hc hfl ex => ?_
       rw [ex]
       have h1 := h.soon.made
       have h2 := h1.change (c := .made n m.made) (u := m.used) (fun f hf => by
        rw [List.mem_singleton.1 (show f ∈ [m.made] from hf)]
        refine ⟨fun hm => absurd (h.lt _ hm) (Nat.lt_irrefl _), Nat.lt_succ_self _, ?_⟩
        show (x.files ++ [(⟨[], 0⟩ : Fl)]).getD m.made ⟨[], 0⟩ = if m.made = m.made then ⟨[], 0⟩ else _
        rw [if_pos rfl, List.getD_eq_getElem?_getD, List.getElem?_append_right (by rw [h.len]; exact Nat.le_refl _), h.len, Nat.sub_self]
        rfl) (by
        have hu := h1.used
        show m.used = (S (fun i => (if i = m.made then (⟨[], 0⟩ : Fl) else m.files i).bytes.length) (Dir.put n m.made m.names) : Nat)
        rw [S_put, Zrz hf, if_pos rfl]
        have hu : m.used = (S (fun i => (if i = m.made then (⟨[], 0⟩ : Fl) else m.files i).bytes.length) m.names : Nat) := hu
        rw [hu]
        simp)
       rw [h.len]
       exact h2.nums rfl rfl rfl rfl rfl rfl rfl rfl rfl rfl rfl rfl (by show wrap64 (x.did + 1) = wrap64 (m.done + 1); rw [h.did]) (by show sooner x.fail = sooner m.fail; rw [h.fail]) (by show sooner x.cut = sooner m.cut; rw [h.cut]) h.down
theorem Gl.append (h : Gl m x) (ok : DkOk K m) (hK : K ≤ 100000) (n : Nm) (b : List UInt8) (hb : b.length ≤ 1000000000) : (x.append n b).2 = (m.append n b).2 ∧ Gl (m.append n b).1 (x.append n b).1 := by
 have hs := h.small ok hK
 unfold Rf.append Dk.append
 rw [h.down, h.names, h.most, ← h.usedR, IntWalk.wrap64_in _ (by omega)]
 cases hd : m.down with
 | true => exact ⟨rfl, h⟩
 | false =>
   simp only [Bool.false_eq_true, if_false]
   cases hf : Dir.find n m.names with
   | none => exact ⟨rfl, h⟩
   | some f =>
     dsimp only
     by_cases hx : m.most < m.used + b.length
     ·rw [if_pos (show m.most - m.used < b.length by omega), if_pos hx]
      exact ⟨rfl, h⟩
     ·rw [if_neg (show ¬ m.most - m.used < b.length by omega), if_neg hx]
      refine h.thing hd (Dk.doAppend f b) _ fun hc hfl ex => ?_
      rw [ex, (h.file hf).1]
      have h1 := h.soon.setF (f := f) (v := ⟨(m.files f).bytes ++ b, (m.files f).kept⟩) (u := wrap64 (m.used + b.length)) (h.file hf).2 (by
       rw [IntWalk.wrap64_in _ (by omega), h.used]
       have := Zql (ln := fun i => (m.files i).bytes.length) (ln' := fun i => (((m.sooner.setFile f ⟨(m.files f).bytes ++ b, (m.files f).kept⟩).files i).bytes.length)) (f := f) (b := b.length) (by
        show (if f = f then _ else _ : Fl).bytes.length = _
        rw [if_pos rfl]
        exact List.length_append) (fun i hi => by
        show (if i = f then _ else _ : Fl).bytes.length = _
        rw [if_neg hi]
        rfl) h.valN.1
       rw [if_pos (V_mem (Zdb hf))] at this
       show _ = ((S _ m.names : Nat) : Int)
       rw [this]
       simp)
      exact h1.nums rfl rfl rfl rfl rfl rfl rfl rfl rfl rfl rfl rfl (by show wrap64 (x.did + 1) = wrap64 (m.done + 1); rw [h.did]) (by show sooner x.fail = sooner m.fail; rw [h.fail]) (by show sooner x.cut = sooner m.cut; rw [h.cut]) h.down
theorem Gl.sync (h : Gl m x) (n : Nm) : (x.sync n).2 = (m.sync n).2 ∧ Gl (m.sync n).1 (x.sync n).1 := by
 unfold Rf.sync Dk.sync
 rw [h.down, h.names]
 cases hd : m.down with
 | true => exact ⟨rfl, h⟩
 | false =>
   simp only [Bool.false_eq_true, if_false]
   cases hf : Dir.find n m.names with
   | none => exact ⟨rfl, h⟩
   | some f =>
     dsimp only
     refine h.thing hd (Dk.doSync f) _ fun hc hfl ex => ?_
     rw [ex, (h.file hf).1]
     have h1 := h.soon.setF (f := f) (v := ⟨(m.files f).bytes, (m.files f).bytes.length⟩) (u := m.used) (h.file hf).2 (by
      show m.used = ((S _ m.names : Nat) : Int)
      rw [S_fun (l := m.names) (ln := fun i => (m.files i).bytes.length) (ln' := fun i => (((m.sooner.setFile f ⟨(m.files f).bytes, (m.files f).bytes.length⟩).files i).bytes.length)) fun i hi => by
       show (if i = f then _ else _ : Fl).bytes.length = _
       split
       ·rename_i e; rw [e]
       ·rfl]
      exact h.used)
     exact h1.nums rfl rfl rfl rfl rfl rfl rfl rfl rfl rfl rfl rfl (by show wrap64 (x.did + 1) = wrap64 (m.done + 1); rw [h.did]) (by show sooner x.fail = sooner m.fail; rw [h.fail]) (by show sooner x.cut = sooner m.cut; rw [h.cut]) h.down
theorem Gl.remove (h : Gl m x) (ok : DkOk K m) (hK : K ≤ 100000) (n : Nm) : (x.remove n).2 = (m.remove n).2 ∧ Gl (m.remove n).1 (x.remove n).1 := by
 have hs := h.small ok hK
 unfold Rf.remove Dk.remove
 rw [h.down, h.names]
 cases hd : m.down with
 | true => exact ⟨rfl, h⟩
 | false =>
   simp only [Bool.false_eq_true, if_false]
   cases hf : Dir.find n m.names with
   | none => exact ⟨rfl, h⟩
   | some f =>
     dsimp only
     refine h.thing hd (Dk.doRemove f n) _ fun hc hfl ex => ?_
     rw [ex]
     have h1 := h.soon.change (c := .taken n) (u := wrap64 (m.used - (m.files f).bytes.length)) (fun g hg => by cases hg) (by
      show wrap64 (m.used - (m.files f).bytes.length) = (S (fun i => (m.files i).bytes.length) (Dir.del n m.names) : Nat)
      have h2 := S_del (ln := fun i => (m.files i).bytes.length) h.srtN hf
      have h3 := h.used
      rw [IntWalk.wrap64_in _ (by omega)]
      omega)
     exact h1.nums rfl rfl rfl rfl rfl rfl rfl rfl rfl rfl rfl rfl (by show wrap64 (x.did + 1) = wrap64 (m.done + 1); rw [h.did]) (by show sooner x.fail = sooner m.fail; rw [h.fail]) (by show sooner x.cut = sooner m.cut; rw [h.cut]) h.down
theorem Gl.syncDir (h : Gl m x) : x.syncDir.2 = m.syncDir.2 ∧ Gl m.syncDir.1 x.syncDir.1 := by
 unfold Rf.syncDir
 rw [h.down]
 cases hd : m.down with
 | true =>
   have : m.syncDir = (m, 82) := by unfold Dk.syncDir Dk.thing; rw [if_pos hd]
   rw [this]
   exact ⟨rfl, h⟩
 | false =>
   simp only [Bool.false_eq_true, if_false]
   refine h.thing hd (fun m => m.keep m.pend.length) _ fun hc hfl ex => ?_
   rw [ex, h.names]
   have hk : Go.Proofs.YtlldcogkcjnejaaGreat.redo (m.pend.take m.pend.length) m.kept = m.names := by rw [List.take_length, ← h.redo]
   have hkk : (m.sooner.keep m.sooner.pend.length).kept = m.names := hk
   have hv := h.valN
   refine ⟨h.most, h.len, h.names, hkk.symm, rfl, ?_, by show sooner x.fail = sooner m.fail; rw [h.fail], by show sooner x.cut = sooner m.cut; rw [h.cut], h.down, ?_, ?_, ?_, ?_, ?_, h.used, h.top⟩
   ·show wrap64 (x.did + 1) = wrap64 (m.done + 1)
    rw [h.did]
   ·show m.names = (m.sooner.keep m.sooner.pend.length).kept
    rw [hkk]
   ·show Yi (m.sooner.keep m.sooner.pend.length).kept
    rw [hkk]; exact h.srtN
   ·show (V (m.sooner.keep m.sooner.pend.length).kept ++ []).Nodup
    rw [hkk, List.append_nil]; exact hv.1
   ·show ∀ i ∈ V (m.sooner.keep m.sooner.pend.length).kept ++ [], i < m.made
    rw [hkk, List.append_nil]
    exact fun i hi => h.lt i (hv.2 i hi)
   ·show ∀ i ∈ V (m.sooner.keep m.sooner.pend.length).kept ++ [], x.files.getD i ⟨[], 0⟩ = m.files i
    rw [hkk, List.append_nil]
    exact fun i hi => h.same i (hv.2 i hi)
def Rf.flip (m : Rf) (n : Nm) (y : Int) (z : Nat) : Rf × Bool := match Dir.find n m.names with
 | none => (m, false)
 | some f => if y < 0 ∨ 8 * (m.len f : Int) ≤ y then (m, false)
   else (m.set f ⟨flipT (z * 2 ^ (y.toNat % 8)) (y.toNat / 8) (m.files.getD f ⟨[], 0⟩).bytes, (m.files.getD f ⟨[], 0⟩).kept⟩, true)
theorem Gl.flip (h : Gl m x) (n : Nm) (y : Int) (z : Nat) : (x.flip n y z).2 = (m.flip n y z).2 ∧ Gl (m.flip n y z).1 (x.flip n y z).1 := by
 unfold Rf.flip Dk.flip
 rw [h.names]
 cases hf : Dir.find n m.names with
 | none => exact ⟨rfl, h⟩
 | some f =>
   dsimp only
   unfold Rf.len
   rw [(h.file hf).1]
   by_cases hy : y < 0 ∨ 8 * ((m.files f).bytes.length : Int) ≤ y
   ·rw [if_pos hy, if_pos hy]
    exact ⟨rfl, h⟩
   ·rw [if_neg hy, if_neg hy]
    refine ⟨rfl, ?_⟩
    have h1 := h.setF (f := f) (v := ⟨flipT (z * 2 ^ (y.toNat % 8)) (y.toNat / 8) (m.files f).bytes, (m.files f).kept⟩) (u := m.used) (h.file hf).2 (by
     rw [h.used, S_fun (l := m.names) (ln := fun i => (m.files i).bytes.length) (ln' := fun i => (((m.setFile f ⟨flipT (z * 2 ^ (y.toNat % 8)) (y.toNat / 8) (m.files f).bytes, (m.files f).kept⟩).files i).bytes.length)) fun i hi => by
      show (if i = f then _ else _ : Fl).bytes.length = _
      split
      ·rename_i e; rw [e]; exact Zt _ _ _
      ·rfl])
    exact h1.nums rfl rfl rfl rfl rfl rfl rfl rfl rfl rfl rfl rfl h.did h.fail h.cut h.down
theorem Zjf (ln : Nat → Nat) : ∀ l : Dir, (l.map fun p => (ln p.2 : Int)).sum = (S ln l : Nat)
 | [] => rfl
 | y :: r => by
   have ih := Zjf ln r
   show (ln y.2 : Int) + (r.map fun p => (ln p.2 : Int)).sum = ((ln y.2 + S ln r : Nat) : Int)
   rw [ih]
   simp
theorem Gl.boot (h : Gl m x) (ok : DkOk K m) (hK : K ≤ 100000) (dirs : Int) (l : List Int) : Gl (m.boot dirs l) (x.boot dirs l) := by
 obtain ⟨k, hk⟩ : ∃ k, (min (max dirs 0) (m.pend.length : Int)).toNat = k := ⟨_, rfl⟩
 have ht : m.pend.take dirs.toNat = m.pend.take k := by
  by_cases hd : dirs.toNat ≤ m.pend.length
  ·congr 1; omega
  ·rw [List.take_of_length_le (by omega), List.take_of_length_le (by omega)]
 have hkept : (m.keep (min (max dirs 0) (m.pend.length : Int)).toNat).kept = Go.Proofs.YtlldcogkcjnejaaGreat.redo (m.pend.take k) m.kept := by
  rw [hk]; rfl
 obtain ⟨r1, r2⟩ := redo_same (m.pend.take k) h.srt
 have hu : (V m.kept ++ (madeI (m.pend.take k) ++ [])).Nodup := by
  rw [List.append_nil]
  exact h.uniq.sublist ((List.Sublist.filterMap _ (List.take_sublist _ _)).append_left _)
 obtain ⟨v1, v2⟩ := redo_vals (m.pend.take k) hu
 rw [List.append_nil] at v1
 have hin : ∀ i ∈ V (Go.Proofs.YtlldcogkcjnejaaGreat.redo (m.pend.take k) m.kept), i ∈ V m.kept ++ madeI m.pend := fun i hi => by
  rcases List.mem_append.1 (v2 i hi) with h1 | h1
  ·exact List.mem_append_left _ h1
  ·exact List.mem_append_right _ ((List.Sublist.filterMap _ (List.take_sublist _ _)).subset h1)
 have hfl : ∀ i ∈ V (Go.Proofs.YtlldcogkcjnejaaGreat.redo (m.pend.take k) m.kept), (m.boot dirs l).files i = (m.files i).lose (more l i) := fun i hi => by
  show (if (m.keep (min (max dirs 0) (m.pend.length : Int)).toNat).kept.any (fun p => p.2 == i) then (m.files i).lose (more l i) else m.files i) = _
  rw [hkept, if_pos]
  obtain ⟨p, hp, e⟩ := List.mem_map.1 hi
  exact List.any_eq_true.2 ⟨p, hp, by simpa using e⟩
 have hb := ok.boot dirs l
 have hbn : (m.boot dirs l).names = Go.Proofs.YtlldcogkcjnejaaGreat.redo (m.pend.take k) m.kept := hkept
 have hbk : (m.boot dirs l).kept = Go.Proofs.YtlldcogkcjnejaaGreat.redo (m.pend.take k) m.kept := hkept
 have hbp : (m.boot dirs l).pend = [] := rfl
 have hbu : (m.boot dirs l).used = wrap64 (((m.boot dirs l).names.map fun p => (((m.boot dirs l).files p.2).bytes.length : Int)).sum) := rfl
 refine ⟨h.most, ?_, ?_, ?_, rfl, h.did, rfl, rfl, rfl, ?_, by rw [hbk]; exact r2, by rw [hbk, hbp]; show (V _ ++ []).Nodup; rw [List.append_nil]; exact v1, ?_, ?_, ?_, h.top⟩
 ·show (x.files.mapIdx fun i f => f.lose (more l i)).length = m.made
  rw [List.length_mapIdx, h.len]
 ·show rredo (x.pend.take dirs.toNat) x.kept = (m.boot dirs l).names
  rw [h.pend, h.kept, ht, r1, hbn]
 ·show rredo (x.pend.take dirs.toNat) x.kept = (m.boot dirs l).kept
  rw [h.pend, h.kept, ht, r1, hbk]
 ·rw [hbn, hbk, hbp]; rfl
 ·rw [hbk, hbp]
  show ∀ i ∈ V _ ++ [], i < m.made
  rw [List.append_nil]
  exact fun i hi => h.lt i (hin i hi)
 ·rw [hbk, hbp]
  show ∀ i ∈ V _ ++ [], (x.files.mapIdx fun i f => f.lose (more l i)).getD i ⟨[], 0⟩ = _
  rw [List.append_nil]
  intro i hi
  have h1 := h.same i (hin i hi)
  have h2 : i < x.files.length := by rw [h.len]; exact h.lt i (hin i hi)
  rw [hfl i hi, ← h1, List.getD_eq_getElem?_getD, List.getD_eq_getElem?_getD, List.getElem?_mapIdx, List.getElem?_eq_getElem h2]
  rfl
 ·rw [hbu, Zjf fun i => ((m.boot dirs l).files i).bytes.length]
  refine IntWalk.wrap64_in _ ?_
  have h1 := S_le (ln := fun i => ((m.boot dirs l).files i).bytes.length) (K := K) (l := (m.boot dirs l).names) fun i hi => (hb.bytes i (by
   rw [hbn] at hi
   exact h.lt i (hin i hi))).1
  have h2 := hb.names
  have h3 : (m.boot dirs l).names.length * K ≤ 100000 * 100000 := Nat.mul_le_mul (by omega) hK
  omega
end
open Go.Lib (hid)
def flC (f : Fl) : List Value := [.string ⟨f.bytes.toArray⟩, .int .i64 (f.kept : Int)]
def enC (p : Nm × Nat) : List Value := [.string ⟨p.1.toArray⟩, .int .i64 (p.2 : Int)]
def chC : Ch → List Value
 | .made n f => [.int .i64 1, .string ⟨n.toArray⟩, .string ⟨#[]⟩, .int .i64 (f : Int)]
 | .moved n to => [.int .i64 2, .string ⟨n.toArray⟩, .string ⟨to.toArray⟩, .int .i64 0]
 | .taken n => [.int .i64 3, .string ⟨n.toArray⟩, .string ⟨#[]⟩, .int .i64 0]
theorem enL (p : Nm × Nat) : (enC p).length = 2 := rfl
theorem flL (f : Fl) : (flC f).length = 2 := rfl
theorem chL (c : Ch) : (chC c).length = 4 := by cases c <;> rfl
/-! Where a name is. -/
def NotIn (x : Nm) (l : Dir) (j : Nat) : Prop := ∀ i, i < j → ∀ q, l[i]? = some q → q.1 ≠ x
def fidx (n : Nm) (l : Dir) : Int := match l.findIdx? (fun p => p.1 == n) with
 | some i => (i : Nat)
 | none => -1
theorem Zq0 {n : Nm} {l : Dir} {j f : Nat} {p : Nm × Nat} (h : NotIn n l j) (hp : l[j]? = some p) (hn : p.1 = n) : fidx n l = (j : Nat) := by
 have hj := (List.getElem?_eq_some_iff.1 hp)
 have : l.findIdx? (fun p => p.1 == n) = some j := by
  rw [List.findIdx?_eq_some_iff_getElem]
  refine ⟨hj.1, ?_, fun i hi => ?_⟩
  ·rw [hj.2]; simpa using hn
  ·have := h i hi _ (List.getElem?_eq_getElem (Nat.lt_trans hi hj.1))
   simpa using this
 unfold fidx
 rw [this]
theorem Zl6 {n : Nm} {l : Dir} (h : NotIn n l l.length) : fidx n l = -1 := by
 have : l.findIdx? (fun p => p.1 == n) = none := by
  rw [List.findIdx?_eq_none_iff]
  intro q hq
  obtain ⟨i, hi, rfl⟩ := List.mem_iff_getElem.1 hq
  have := h i hi _ (List.getElem?_eq_getElem hi)
  simpa using this
 unfold fidx
 rw [this]
theorem Jm {n : Nm} {l : Dir} : (Dir.find n l = none ∧ fidx n l = -1) ∨ ∃ (i f : Nat), Dir.find n l = some f ∧ fidx n l = (i : Nat) ∧ l[i]? = some (n, f) := by
 unfold fidx Dir.find
 cases h : l.findIdx? (fun p => p.1 == n) with
 | none =>
   left
   rw [List.findIdx?_eq_none_iff] at h
   refine ⟨?_, rfl⟩
   rw [Option.map_eq_none_iff, List.find?_eq_none]
   intro q hq
   simp [h q hq]
 | some i =>
   right
   rw [List.findIdx?_eq_some_iff_getElem] at h
   obtain ⟨hi, h1, h2⟩ := h
   have h3 : l.find? (fun p => p.1 == n) = some l[i] := by
    rw [List.find?_eq_some_iff_getElem]
    exact ⟨h1, i, hi, rfl, fun j hj => by have := h2 j hj; simpa using this⟩
   refine ⟨i, l[i].2, by rw [h3]; rfl, rfl, ?_⟩
   rw [List.getElem?_eq_getElem hi]
   have : l[i].1 = n := by simpa using h1
   rw [← this]
set_option maxRecDepth 100000 in
set_option maxHeartbeats 4000000 in
theorem Yu (w : World) {A : Option Addr} {n c : Nat} {l : Dir} (x : Nm) (h : Rw w A n enC 2 l) (hn : n ≤ 1000000000) :
 Calls Tryz.prog 74 #[.slice A n c, .string ⟨x.toArray⟩] w fun e w' => e = .returned (.int .i64 (fidx x l)) ∧ w = w' := by
 have H := hid h
 have HL := hid h.len
 clear h
 go_enter Tryz.func74, Tryz.ntmps74
 go_wp2_with (fail)
 go_loopw [5] (fun vi wr => ∃ j : Nat, j ≤ n ∧ vi = .int .i64 (j : Nat) ∧ Hid (NotIn x l j) ∧ w = wr) (fun i _ => n - (intOf i).toNat)
 case atStart => exact ⟨0, by omega, rfl, hid (fun i hi => absurd hi (Nat.not_lt_zero _)), rfl⟩
 case round =>
  obtain ⟨j, hj, rfl, HJ, rfl⟩ := hrel
  by_cases hlt : j < n
  ·have hlt' : (j : Int) < (n : Int) := by omega
   have hj0 : (0 : Int) ≤ (j : Int) := by omega
   obtain ⟨p, hp⟩ : ∃ p, l[j]? = some p := ⟨_, List.getElem?_eq_getElem (by rw [HL.out]; exact hlt)⟩
   obtain ⟨g, rfl, hg, hc⟩ := H.out.spot j p hp
   have c0 : w.cell? { block := g, off := j * 2 } = some (.string ⟨p.1.toArray⟩) := hc 0 (by omega)
   have HP := hid hp
   have hwj : IntKind.i64.wrap ((j : Int) + 1) = (j : Int) + 1 := IntWalk.i64_in _ (by omega)
   clear hc hp
   by_cases hpx : p.1 = x
   ·have hq : (p.1 == x) = true := by rw [beq_iff_eq]; exact hpx
    have HF := hid (show fidx x l = (j : Nat) from Zq0 (f := 0) HJ.out HP.out hpx)
    clear hpx
    go_wp2_with (fail)
    all_goals first
     | (go_ret; rw [HF.out]; exact ⟨rfl, rfl⟩)
     | (exfalso; simp_all; done)
   ·have hq : (p.1 == x) = false := by rw [beq_eq_false_iff_ne]; exact hpx
    have HN := hid (show NotIn x l (j + 1) from fun i hi q hqq => by
     rcases Nat.lt_or_ge i j with h1 | h1
     ·exact HJ.out i h1 q hqq
     ·obtain rfl : i = j := by omega
      rw [HP.out] at hqq
      injection hqq with hqq
      rw [← hqq]; exact hpx)
    clear hpx
    go_wp2_with (fail)
    exact ⟨⟨j + 1, hlt, rfl, HN, trivial⟩, by simp only [intOf]; omega⟩
  ·obtain rfl : j = n := by omega
   have HF := hid (show fidx x l = -1 from Zl6 (by rw [HL.out]; exact HJ.out))
   go_wp2_with (fail)
   go_ret
   rw [HF.out]
   exact ⟨rfl, rfl⟩
/-! The disk. -/
theorem Z8 {w : World} {base : Nat} {e : TypeId} {size : Nat} {v : Value} {n : Nat} {xs : List Value} (h : w.ownsRow base e size v n xs) : ∃ A c, v = .slice A n c := by
 rcases h.2 with ⟨rfl, rfl⟩ | ⟨g, cap, _, rfl, _⟩
 ·exact ⟨none, 0, rfl⟩
 ·exact ⟨_, cap, rfl⟩
def Y3 (m : Rf) (fv nv kv pv : Value) : Array Value := #[.int .i64 m.most, fv, nv, kv, pv, .int .i64 m.did, .int .i64 m.fail, .int .i64 m.cut, .bool m.down]
structure RfAt (w : World) (r : Nat) (own : Nat → Prop) (m : Rf) (fv nv kv pv : Value) : Prop where
 top : Whole w r 64 (Y3 m fv nv kv pv)
 ro : own r
 lt : ∀ k, own k → k < w.heap.size
 files : w.ownsRow 0 82 2 fv m.files.length (m.files.flatMap flC)
 fo : ∀ k, fv.ownBlock = some k → own k
 names : w.ownsRow 0 84 2 nv m.names.length (m.names.flatMap enC)
 no : ∀ k, nv.ownBlock = some k → own k
 kept : w.ownsRow 0 84 2 kv m.kept.length (m.kept.flatMap enC)
 ko : ∀ k, kv.ownBlock = some k → own k
 pend : w.ownsRow 0 117 4 pv m.pend.length (m.pend.flatMap chC)
 po : ∀ k, pv.ownBlock = some k → own k
def RfTo (w : World) (r : Nat) (own : Nat → Prop) (w' : World) (m' : Rf) : Prop := ∃ own' fv nv kv pv, RfAt w' r own' m' fv nv kv pv ∧ Zc own w w' ∧ ∀ k, own' k → own k ∨ w.heap.size ≤ k
section
variable {w w' : World} {r : Nat} {own : Nat → Prop} {m m' : Rf} {fv nv kv pv : Value}
theorem RfAt.stay (h : RfAt w r own m fv nv kv pv) (hs : ∀ k, own k → w'.heap[k]? = w.heap[k]?) (hz : w.heap.size ≤ w'.heap.size) : RfAt w' r own m fv nv kv pv :=
 ⟨h.top.same (hs r h.ro), h.ro, fun k hk => Nat.lt_of_lt_of_le (h.lt k hk) hz, Zy h.files fun k hk => hs k (h.fo k hk), h.fo, Zy h.names fun k hk => hs k (h.no k hk), h.no, Zy h.kept fun k hk => hs k (h.ko k hk), h.ko, Zy h.pend fun k hk => hs k (h.po k hk), h.po⟩
theorem RfAt.grow (h : RfAt w r own m fv nv kv pv) (hg : Grows w w') : RfAt w' r own m fv nv kv pv := h.stay (fun k hk => hg.block k (h.lt k hk)) hg.size
theorem RfAt.cell (h : RfAt w r own m fv nv kv pv) (i : Nat) : w.cell? ⟨r, i, none⟩ = (Y3 m fv nv kv pv)[i]? := h.top.cell i
theorem RfAt.namesRw (h : RfAt w r own m fv nv kv pv) : ∃ A c, nv = .slice A m.names.length c ∧ Rw w A m.names.length enC 2 m.names := by
 obtain ⟨A, c, he⟩ := Z8 h.names
 exact ⟨A, c, he, Rw.owned enL rfl (he ▸ h.names)⟩
theorem RfAt.filesRw (h : RfAt w r own m fv nv kv pv) : ∃ A c, fv = .slice A m.files.length c ∧ Rw w A m.files.length flC 2 m.files := by
 obtain ⟨A, c, he⟩ := Z8 h.files
 exact ⟨A, c, he, Rw.owned flL rfl (he ▸ h.files)⟩
theorem Ym {t : TypeId} {e : TypeId} {k : Nat} {v : Value} {n b : Nat} {xs : List Value} {cs : Array Value} (h : Whole w r t cs) (hr : w.ownsRow b e k v n xs) (hne : e ≠ t) : v.ownBlock ≠ some r := fun he => by
 obtain ⟨cur, h1⟩ := Zs hr he
 unfold Whole at h
 rw [h1] at h
 injection h with h
 injection h with _ h _
 exact hne h
theorem RfAt.set (h : RfAt w r own m fv nv kv pv) {m' : Rf} {fv' nv' kv' pv' : Value} (i : Nat) (v : Value) (hd : (Y3 m fv nv kv pv).setIfInBounds i v = Y3 m' fv' nv' kv' pv')
 (h1 : fv' = fv ∧ m'.files = m.files) (h2 : nv' = nv ∧ m'.names = m.names) (h3 : kv' = kv ∧ m'.kept = m.kept) (h4 : pv' = pv ∧ m'.pend = m.pend) : RfAt (w.setCell ⟨r, i, none⟩ v) r own m' fv' nv' kv' pv' := by
 have hs : Zc (fun k => k = r) w (w.setCell ⟨r, i, none⟩ v) := (Zc.refl (fun k => k = r) w).setCell (p := ⟨r, i, none⟩) rfl v
 obtain ⟨rfl, e1⟩ := h1
 obtain ⟨rfl, e2⟩ := h2
 obtain ⟨rfl, e3⟩ := h3
 obtain ⟨rfl, e4⟩ := h4
 have keep : ∀ {e : TypeId} {k n : Nat} {u : Value} {xs : List Value}, w.ownsRow 0 e k u n xs → e ≠ 64 → (w.setCell ⟨r, i, none⟩ v).ownsRow 0 e k u n xs := fun hr hne => Zy hr fun k hk => hs.same k (hr.lt k hk).2 fun e => Ym h.top hr hne (e ▸ hk)
 exact ⟨hd ▸ h.top.put i v, h.ro, fun k hk => Nat.lt_of_lt_of_le (h.lt k hk) hs.size, by rw [e1]; exact keep h.files (by decide), h.fo, by rw [e2]; exact keep h.names (by decide), h.no, by rw [e3]; exact keep h.kept (by decide), h.ko, by rw [e4]; exact keep h.pend (by decide), h.po⟩
theorem RfTo.same (h : RfAt w' r own m' fv nv kv pv) (hs : Zc (fun k => k = r) w w') (hro : own r) : RfTo w r own w' m' := ⟨own, fv, nv, kv, pv, h, hs.wider fun k _ e => e ▸ hro, fun k hk => .inl hk⟩
theorem Zl7 (w : World) (h : RfAt w r own m fv nv kv pv) : Calls Tryz.prog 14 #[.pointer (some ⟨r, 0, none⟩)] w fun e w' => e = .returned (.int .i64 m.did) ∧ w = w' := by
 have c8 : w.cell? ⟨r, 5, none⟩ = some (.int .i64 m.did) := h.cell 5
 clear h
 go_enter Tryz.func14, Tryz.ntmps14
 go_wp2
 go_ret
 exact ⟨rfl, rfl⟩
theorem Zl8 (w : World) (y : Int) (h : RfAt w r own m fv nv kv pv) : Calls Tryz.prog 26 #[.pointer (some ⟨r, 0, none⟩), .int .i64 y] w fun e w' => e = .returned (.tuple #[]) ∧ RfTo w r own w' (m.setFail y) := by
 have c6 : w.cell? ⟨r, 6, none⟩ = some (.int .i64 m.fail) := h.cell 6
 have f6 := h.top.free 6
 have H := hid h
 clear h
 by_cases hy : 0 ≤ y
 ·go_enter Tryz.func26, Tryz.ntmps26
  go_wp2
  go_end0
  exact ⟨rfl, RfTo.same (H.out.set (m' := m.setFail y) 6 _ (by simp [Y3, Rf.setFail, hy]) ⟨rfl, rfl⟩ ⟨rfl, rfl⟩ ⟨rfl, rfl⟩ ⟨rfl, rfl⟩) ((Zc.refl (fun k => k = r) w).setCell (p := ⟨r, 6, none⟩) rfl _) H.out.ro⟩
 ·have this : m.setFail y = m := by simp [Rf.setFail, hy]
  rw [this]
  clear this
  go_enter Tryz.func26, Tryz.ntmps26
  go_wp2
  go_end0
  exact ⟨rfl, RfTo.same H.out (Zc.refl _ _) H.out.ro⟩
theorem Zos (w : World) (y : Int) (h : RfAt w r own m fv nv kv pv) : Calls Tryz.prog 28 #[.pointer (some ⟨r, 0, none⟩), .int .i64 y] w fun e w' => e = .returned (.tuple #[]) ∧ RfTo w r own w' (m.setCut y) := by
 have c6 : w.cell? ⟨r, 7, none⟩ = some (.int .i64 m.cut) := h.cell 7
 have f6 := h.top.free 7
 have H := hid h
 clear h
 by_cases hy : 0 ≤ y
 ·go_enter Tryz.func28, Tryz.ntmps28
  go_wp2
  go_end0
  exact ⟨rfl, RfTo.same (H.out.set (m' := m.setCut y) 7 _ (by simp [Y3, Rf.setCut, hy]) ⟨rfl, rfl⟩ ⟨rfl, rfl⟩ ⟨rfl, rfl⟩ ⟨rfl, rfl⟩) ((Zc.refl (fun k => k = r) w).setCell (p := ⟨r, 7, none⟩) rfl _) H.out.ro⟩
 ·have this : m.setCut y = m := by simp [Rf.setCut, hy]
  rw [this]
  clear this
  go_enter Tryz.func28, Tryz.ntmps28
  go_wp2
  go_end0
  exact ⟨rfl, RfTo.same H.out (Zc.refl _ _) H.out.ro⟩
end
section
variable {w w' : World} {r : Nat} {own : Nat → Prop} {m m' : Rf} {fv nv kv pv : Value}
set_option maxHeartbeats 1000000 in
theorem Zlx (w : World) (h : RfAt w r own m fv nv kv pv) (hc : 0 < m.cut) (hf : 0 < m.fail) (hb : m.cut ≤ 9223372036854775807 ∧ m.fail ≤ 9223372036854775807) : Calls Tryz.prog 78 #[.pointer (some ⟨r, 0, none⟩)] w fun e w' => e = .returned (.int .i64 m.thing.2) ∧ ∃ X, X = m.thing.1 ∧ RfAt w' r own X fv nv kv pv ∧ Zc (fun k => k = r) w w' := by
 have e : m.thing = (({ m with cut := m.cut - 1, fail := m.fail - 1, did := wrap64 (m.did + 1) } : Rf), 0) := by
  unfold Rf.thing Rf.sooner Go.Proofs.YtlldcogkcjnejaaGreat.sooner
  rw [if_neg (by omega), if_neg (by omega)]
  simp [hc, hf]
 rw [e]
 clear e
 have c5 : w.cell? ⟨r, 5, none⟩ = some (.int .i64 m.did) := h.cell 5
 have c6 : w.cell? ⟨r, 6, none⟩ = some (.int .i64 m.fail) := h.cell 6
 have c7 : w.cell? ⟨r, 7, none⟩ = some (.int .i64 m.cut) := h.cell 7
 have c8 : w.cell? ⟨r, 8, none⟩ = some (.bool m.down) := h.cell 8
 have f5 := h.top.free 5
 have f6 := h.top.free 6
 have f7 := h.top.free 7
 have f8 := h.top.free 8
 have e1 : wrap64 (m.cut - 1) = m.cut - 1 := IntWalk.wrap64_in _ (by omega)
 have e1' : IntKind.i64.wrap (m.cut - 1) = m.cut - 1 := IntWalk.i64_in _ (by omega)
 have e2 : wrap64 (m.fail - 1) = m.fail - 1 := IntWalk.wrap64_in _ (by omega)
 have e2' : IntKind.i64.wrap (m.fail - 1) = m.fail - 1 := IntWalk.i64_in _ (by omega)
 have d1 : (m.cut == 0) = false := by rw [beq_eq_false_iff_ne]; omega
 have d2 : (m.fail == 0) = false := by rw [beq_eq_false_iff_ne]; omega
 have s0 := h.set (m' := { m with cut := m.cut - 1 }) 7 (.int .i64 (m.cut - 1)) rfl ⟨rfl, rfl⟩ ⟨rfl, rfl⟩ ⟨rfl, rfl⟩ ⟨rfl, rfl⟩
 have s1 := s0.set (m' := { m with cut := m.cut - 1, fail := m.fail - 1 }) 6 (.int .i64 (m.fail - 1)) rfl ⟨rfl, rfl⟩ ⟨rfl, rfl⟩ ⟨rfl, rfl⟩ ⟨rfl, rfl⟩
 have s2 := s1.set (m' := { m with cut := m.cut - 1, fail := m.fail - 1, did := wrap64 (m.did + 1) }) 5 (.int .i64 (wrap64 (m.did + 1))) rfl ⟨rfl, rfl⟩ ⟨rfl, rfl⟩ ⟨rfl, rfl⟩ ⟨rfl, rfl⟩
 have HS := hid (And.intro s2 ((((Zc.refl (fun k => k = r) w).setCell (p := ⟨r, 7, none⟩) rfl (.int .i64 (m.cut - 1))).setCell (p := ⟨r, 6, none⟩) rfl (.int .i64 (m.fail - 1))).setCell (p := ⟨r, 5, none⟩) rfl (.int .i64 (wrap64 (m.did + 1)))))
 clear h s0 s1 s2
 go_enter Tryz.func78, Tryz.ntmps78
 go_wp2
 go_ret
 exact ⟨rfl, _, rfl, HS.out.1, HS.out.2⟩
set_option maxHeartbeats 1000000 in
theorem Zly (w : World) (h : RfAt w r own m fv nv kv pv) (hc : 0 < m.cut) (hf : m.fail = 0) (hb : m.cut ≤ 9223372036854775807 ∧ m.fail ≤ 9223372036854775807) : Calls Tryz.prog 78 #[.pointer (some ⟨r, 0, none⟩)] w fun e w' => e = .returned (.int .i64 m.thing.2) ∧ ∃ X, X = m.thing.1 ∧ RfAt w' r own X fv nv kv pv ∧ Zc (fun k => k = r) w w' := by
 have e : m.thing = (({ m with cut := m.cut - 1, fail := -1 } : Rf), 81) := by
  unfold Rf.thing Rf.sooner Go.Proofs.YtlldcogkcjnejaaGreat.sooner
  rw [if_neg (by omega), if_pos hf]
  simp [hc, show ¬ (0 < m.fail) by omega]
 rw [e]
 clear e
 have c5 : w.cell? ⟨r, 5, none⟩ = some (.int .i64 m.did) := h.cell 5
 have c6 : w.cell? ⟨r, 6, none⟩ = some (.int .i64 m.fail) := h.cell 6
 have c7 : w.cell? ⟨r, 7, none⟩ = some (.int .i64 m.cut) := h.cell 7
 have c8 : w.cell? ⟨r, 8, none⟩ = some (.bool m.down) := h.cell 8
 have f5 := h.top.free 5
 have f6 := h.top.free 6
 have f7 := h.top.free 7
 have f8 := h.top.free 8
 have e1 : wrap64 (m.cut - 1) = m.cut - 1 := IntWalk.wrap64_in _ (by omega)
 have e1' : IntKind.i64.wrap (m.cut - 1) = m.cut - 1 := IntWalk.i64_in _ (by omega)
 have d1 : (m.cut == 0) = false := by rw [beq_eq_false_iff_ne]; omega
 rw [hf] at c6
 have s0 := h.set (m' := { m with cut := m.cut - 1 }) 7 (.int .i64 (m.cut - 1)) rfl ⟨rfl, rfl⟩ ⟨rfl, rfl⟩ ⟨rfl, rfl⟩ ⟨rfl, rfl⟩
 have s1 := s0.set (m' := { m with cut := m.cut - 1, fail := -1 }) 6 (.int .i64 (-1)) rfl ⟨rfl, rfl⟩ ⟨rfl, rfl⟩ ⟨rfl, rfl⟩ ⟨rfl, rfl⟩
 have HS := hid (And.intro s1 (((Zc.refl (fun k => k = r) w).setCell (p := ⟨r, 7, none⟩) rfl (.int .i64 (m.cut - 1))).setCell (p := ⟨r, 6, none⟩) rfl (.int .i64 (-1))))
 clear h s0 s1
 go_enter Tryz.func78, Tryz.ntmps78
 go_wp2
 go_ret
 exact ⟨rfl, _, rfl, HS.out.1, HS.out.2⟩
set_option maxHeartbeats 1000000 in
theorem Zlz (w : World) (h : RfAt w r own m fv nv kv pv) (hc : 0 < m.cut) (hf : m.fail < 0) (hb : m.cut ≤ 9223372036854775807 ∧ m.fail ≤ 9223372036854775807) : Calls Tryz.prog 78 #[.pointer (some ⟨r, 0, none⟩)] w fun e w' => e = .returned (.int .i64 m.thing.2) ∧ ∃ X, X = m.thing.1 ∧ RfAt w' r own X fv nv kv pv ∧ Zc (fun k => k = r) w w' := by
 have e : m.thing = (({ m with cut := m.cut - 1, did := wrap64 (m.did + 1) } : Rf), 0) := by
  unfold Rf.thing Rf.sooner Go.Proofs.YtlldcogkcjnejaaGreat.sooner
  rw [if_neg (by omega), if_neg (by omega)]
  simp [hc, show ¬ (0 < m.fail) by omega]
 rw [e]
 clear e
 have c5 : w.cell? ⟨r, 5, none⟩ = some (.int .i64 m.did) := h.cell 5
 have c6 : w.cell? ⟨r, 6, none⟩ = some (.int .i64 m.fail) := h.cell 6
 have c7 : w.cell? ⟨r, 7, none⟩ = some (.int .i64 m.cut) := h.cell 7
 have c8 : w.cell? ⟨r, 8, none⟩ = some (.bool m.down) := h.cell 8
 have f5 := h.top.free 5
 have f6 := h.top.free 6
 have f7 := h.top.free 7
 have f8 := h.top.free 8
 have e1 : wrap64 (m.cut - 1) = m.cut - 1 := IntWalk.wrap64_in _ (by omega)
 have e1' : IntKind.i64.wrap (m.cut - 1) = m.cut - 1 := IntWalk.i64_in _ (by omega)
 have d1 : (m.cut == 0) = false := by rw [beq_eq_false_iff_ne]; omega
 have d2 : (m.fail == 0) = false := by rw [beq_eq_false_iff_ne]; omega
 have s0 := h.set (m' := { m with cut := m.cut - 1 }) 7 (.int .i64 (m.cut - 1)) rfl ⟨rfl, rfl⟩ ⟨rfl, rfl⟩ ⟨rfl, rfl⟩ ⟨rfl, rfl⟩
 have s1 := s0.set (m' := { m with cut := m.cut - 1, did := wrap64 (m.did + 1) }) 5 (.int .i64 (wrap64 (m.did + 1))) rfl ⟨rfl, rfl⟩ ⟨rfl, rfl⟩ ⟨rfl, rfl⟩ ⟨rfl, rfl⟩
 have HS := hid (And.intro s1 (((Zc.refl (fun k => k = r) w).setCell (p := ⟨r, 7, none⟩) rfl (.int .i64 (m.cut - 1))).setCell (p := ⟨r, 5, none⟩) rfl (.int .i64 (wrap64 (m.did + 1)))))
 clear h s0 s1
 go_enter Tryz.func78, Tryz.ntmps78
 go_wp2
 go_ret
 exact ⟨rfl, _, rfl, HS.out.1, HS.out.2⟩
set_option maxHeartbeats 1000000 in
theorem Zl0 (w : World) (h : RfAt w r own m fv nv kv pv) (hc : m.cut < 0) (hf : 0 < m.fail) (hb : m.cut ≤ 9223372036854775807 ∧ m.fail ≤ 9223372036854775807) : Calls Tryz.prog 78 #[.pointer (some ⟨r, 0, none⟩)] w fun e w' => e = .returned (.int .i64 m.thing.2) ∧ ∃ X, X = m.thing.1 ∧ RfAt w' r own X fv nv kv pv ∧ Zc (fun k => k = r) w w' := by
 have e : m.thing = (({ m with fail := m.fail - 1, did := wrap64 (m.did + 1) } : Rf), 0) := by
  unfold Rf.thing Rf.sooner Go.Proofs.YtlldcogkcjnejaaGreat.sooner
  rw [if_neg (by omega), if_neg (by omega)]
  simp [show ¬ (0 < m.cut) by omega, hf]
 rw [e]
 clear e
 have c5 : w.cell? ⟨r, 5, none⟩ = some (.int .i64 m.did) := h.cell 5
 have c6 : w.cell? ⟨r, 6, none⟩ = some (.int .i64 m.fail) := h.cell 6
 have c7 : w.cell? ⟨r, 7, none⟩ = some (.int .i64 m.cut) := h.cell 7
 have c8 : w.cell? ⟨r, 8, none⟩ = some (.bool m.down) := h.cell 8
 have f5 := h.top.free 5
 have f6 := h.top.free 6
 have f7 := h.top.free 7
 have f8 := h.top.free 8
 have e2 : wrap64 (m.fail - 1) = m.fail - 1 := IntWalk.wrap64_in _ (by omega)
 have e2' : IntKind.i64.wrap (m.fail - 1) = m.fail - 1 := IntWalk.i64_in _ (by omega)
 have d1 : (m.cut == 0) = false := by rw [beq_eq_false_iff_ne]; omega
 have d2 : (m.fail == 0) = false := by rw [beq_eq_false_iff_ne]; omega
 have s0 := h.set (m' := { m with fail := m.fail - 1 }) 6 (.int .i64 (m.fail - 1)) rfl ⟨rfl, rfl⟩ ⟨rfl, rfl⟩ ⟨rfl, rfl⟩ ⟨rfl, rfl⟩
 have s1 := s0.set (m' := { m with fail := m.fail - 1, did := wrap64 (m.did + 1) }) 5 (.int .i64 (wrap64 (m.did + 1))) rfl ⟨rfl, rfl⟩ ⟨rfl, rfl⟩ ⟨rfl, rfl⟩ ⟨rfl, rfl⟩
 have HS := hid (And.intro s1 (((Zc.refl (fun k => k = r) w).setCell (p := ⟨r, 6, none⟩) rfl (.int .i64 (m.fail - 1))).setCell (p := ⟨r, 5, none⟩) rfl (.int .i64 (wrap64 (m.did + 1)))))
 clear h s0 s1
 go_enter Tryz.func78, Tryz.ntmps78
 go_wp2
 go_ret
 exact ⟨rfl, _, rfl, HS.out.1, HS.out.2⟩
set_option maxHeartbeats 1000000 in
theorem Zl1 (w : World) (h : RfAt w r own m fv nv kv pv) (hc : m.cut < 0) (hf : m.fail = 0) (hb : m.cut ≤ 9223372036854775807 ∧ m.fail ≤ 9223372036854775807) : Calls Tryz.prog 78 #[.pointer (some ⟨r, 0, none⟩)] w fun e w' => e = .returned (.int .i64 m.thing.2) ∧ ∃ X, X = m.thing.1 ∧ RfAt w' r own X fv nv kv pv ∧ Zc (fun k => k = r) w w' := by
 have e : m.thing = (({ m with fail := -1 } : Rf), 81) := by
  unfold Rf.thing Rf.sooner Go.Proofs.YtlldcogkcjnejaaGreat.sooner
  rw [if_neg (by omega), if_pos hf]
  simp [show ¬ (0 < m.cut) by omega, show ¬ (0 < m.fail) by omega]
 rw [e]
 clear e
 have c5 : w.cell? ⟨r, 5, none⟩ = some (.int .i64 m.did) := h.cell 5
 have c6 : w.cell? ⟨r, 6, none⟩ = some (.int .i64 m.fail) := h.cell 6
 have c7 : w.cell? ⟨r, 7, none⟩ = some (.int .i64 m.cut) := h.cell 7
 have c8 : w.cell? ⟨r, 8, none⟩ = some (.bool m.down) := h.cell 8
 have f5 := h.top.free 5
 have f6 := h.top.free 6
 have f7 := h.top.free 7
 have f8 := h.top.free 8
 have d1 : (m.cut == 0) = false := by rw [beq_eq_false_iff_ne]; omega
 rw [hf] at c6
 have s0 := h.set (m' := { m with fail := -1 }) 6 (.int .i64 (-1)) rfl ⟨rfl, rfl⟩ ⟨rfl, rfl⟩ ⟨rfl, rfl⟩ ⟨rfl, rfl⟩
 have HS := hid (And.intro s0 ((Zc.refl (fun k => k = r) w).setCell (p := ⟨r, 6, none⟩) rfl (.int .i64 (-1))))
 clear h s0
 go_enter Tryz.func78, Tryz.ntmps78
 go_wp2
 go_ret
 exact ⟨rfl, _, rfl, HS.out.1, HS.out.2⟩
set_option maxHeartbeats 1000000 in
theorem Zl2 (w : World) (h : RfAt w r own m fv nv kv pv) (hc : m.cut < 0) (hf : m.fail < 0) (hb : m.cut ≤ 9223372036854775807 ∧ m.fail ≤ 9223372036854775807) : Calls Tryz.prog 78 #[.pointer (some ⟨r, 0, none⟩)] w fun e w' => e = .returned (.int .i64 m.thing.2) ∧ ∃ X, X = m.thing.1 ∧ RfAt w' r own X fv nv kv pv ∧ Zc (fun k => k = r) w w' := by
 have e : m.thing = (({ m with did := wrap64 (m.did + 1) } : Rf), 0) := by
  unfold Rf.thing Rf.sooner Go.Proofs.YtlldcogkcjnejaaGreat.sooner
  rw [if_neg (by omega), if_neg (by omega)]
  simp [show ¬ (0 < m.cut) by omega, show ¬ (0 < m.fail) by omega]
 rw [e]
 clear e
 have c5 : w.cell? ⟨r, 5, none⟩ = some (.int .i64 m.did) := h.cell 5
 have c6 : w.cell? ⟨r, 6, none⟩ = some (.int .i64 m.fail) := h.cell 6
 have c7 : w.cell? ⟨r, 7, none⟩ = some (.int .i64 m.cut) := h.cell 7
 have c8 : w.cell? ⟨r, 8, none⟩ = some (.bool m.down) := h.cell 8
 have f5 := h.top.free 5
 have f6 := h.top.free 6
 have f7 := h.top.free 7
 have f8 := h.top.free 8
 have d1 : (m.cut == 0) = false := by rw [beq_eq_false_iff_ne]; omega
 have d2 : (m.fail == 0) = false := by rw [beq_eq_false_iff_ne]; omega
 have s0 := h.set (m' := { m with did := wrap64 (m.did + 1) }) 5 (.int .i64 (wrap64 (m.did + 1))) rfl ⟨rfl, rfl⟩ ⟨rfl, rfl⟩ ⟨rfl, rfl⟩ ⟨rfl, rfl⟩
 have HS := hid (And.intro s0 ((Zc.refl (fun k => k = r) w).setCell (p := ⟨r, 5, none⟩) rfl (.int .i64 (wrap64 (m.did + 1)))))
 clear h s0
 go_enter Tryz.func78, Tryz.ntmps78
 go_wp2
 go_ret
 exact ⟨rfl, _, rfl, HS.out.1, HS.out.2⟩
set_option maxHeartbeats 1000000 in
theorem Zl3 (w : World) (h : RfAt w r own m fv nv kv pv) (hc : m.cut = 0) (hf : 0 < m.fail) (hb : m.cut ≤ 9223372036854775807 ∧ m.fail ≤ 9223372036854775807) : Calls Tryz.prog 78 #[.pointer (some ⟨r, 0, none⟩)] w fun e w' => e = .returned (.int .i64 m.thing.2) ∧ ∃ X, X = m.thing.1 ∧ RfAt w' r own X fv nv kv pv ∧ Zc (fun k => k = r) w w' := by
 have e : m.thing = (({ m with fail := m.fail - 1, down := true, cut := -1 } : Rf), 82) := by
  unfold Rf.thing Rf.sooner Go.Proofs.YtlldcogkcjnejaaGreat.sooner
  rw [if_pos hc]
  simp [show ¬ (0 < m.cut) by omega, hf]
 rw [e]
 clear e
 have c5 : w.cell? ⟨r, 5, none⟩ = some (.int .i64 m.did) := h.cell 5
 have c6 : w.cell? ⟨r, 6, none⟩ = some (.int .i64 m.fail) := h.cell 6
 have c7 : w.cell? ⟨r, 7, none⟩ = some (.int .i64 m.cut) := h.cell 7
 have c8 : w.cell? ⟨r, 8, none⟩ = some (.bool m.down) := h.cell 8
 have f5 := h.top.free 5
 have f6 := h.top.free 6
 have f7 := h.top.free 7
 have f8 := h.top.free 8
 have e2 : wrap64 (m.fail - 1) = m.fail - 1 := IntWalk.wrap64_in _ (by omega)
 have e2' : IntKind.i64.wrap (m.fail - 1) = m.fail - 1 := IntWalk.i64_in _ (by omega)
 rw [hc] at c7
 have d2 : (m.fail == 0) = false := by rw [beq_eq_false_iff_ne]; omega
 have s0 := h.set (m' := { m with fail := m.fail - 1 }) 6 (.int .i64 (m.fail - 1)) rfl ⟨rfl, rfl⟩ ⟨rfl, rfl⟩ ⟨rfl, rfl⟩ ⟨rfl, rfl⟩
 have s1 := s0.set (m' := { m with fail := m.fail - 1, down := true }) 8 (.bool true) rfl ⟨rfl, rfl⟩ ⟨rfl, rfl⟩ ⟨rfl, rfl⟩ ⟨rfl, rfl⟩
 have s2 := s1.set (m' := { m with fail := m.fail - 1, down := true, cut := -1 }) 7 (.int .i64 (-1)) rfl ⟨rfl, rfl⟩ ⟨rfl, rfl⟩ ⟨rfl, rfl⟩ ⟨rfl, rfl⟩
 have HS := hid (And.intro s2 ((((Zc.refl (fun k => k = r) w).setCell (p := ⟨r, 6, none⟩) rfl (.int .i64 (m.fail - 1))).setCell (p := ⟨r, 8, none⟩) rfl (.bool true)).setCell (p := ⟨r, 7, none⟩) rfl (.int .i64 (-1))))
 clear h s0 s1 s2
 go_enter Tryz.func78, Tryz.ntmps78
 go_wp2
 go_ret
 exact ⟨rfl, _, rfl, HS.out.1, HS.out.2⟩
set_option maxHeartbeats 1000000 in
theorem Zl4 (w : World) (h : RfAt w r own m fv nv kv pv) (hc : m.cut = 0) (hf : m.fail = 0) (hb : m.cut ≤ 9223372036854775807 ∧ m.fail ≤ 9223372036854775807) : Calls Tryz.prog 78 #[.pointer (some ⟨r, 0, none⟩)] w fun e w' => e = .returned (.int .i64 m.thing.2) ∧ ∃ X, X = m.thing.1 ∧ RfAt w' r own X fv nv kv pv ∧ Zc (fun k => k = r) w w' := by
 have e : m.thing = (({ m with down := true, cut := -1 } : Rf), 82) := by
  unfold Rf.thing Rf.sooner Go.Proofs.YtlldcogkcjnejaaGreat.sooner
  rw [if_pos hc]
  simp [show ¬ (0 < m.cut) by omega, show ¬ (0 < m.fail) by omega]
 rw [e]
 clear e
 have c5 : w.cell? ⟨r, 5, none⟩ = some (.int .i64 m.did) := h.cell 5
 have c6 : w.cell? ⟨r, 6, none⟩ = some (.int .i64 m.fail) := h.cell 6
 have c7 : w.cell? ⟨r, 7, none⟩ = some (.int .i64 m.cut) := h.cell 7
 have c8 : w.cell? ⟨r, 8, none⟩ = some (.bool m.down) := h.cell 8
 have f5 := h.top.free 5
 have f6 := h.top.free 6
 have f7 := h.top.free 7
 have f8 := h.top.free 8
 rw [hc] at c7
 rw [hf] at c6
 have s0 := h.set (m' := { m with down := true }) 8 (.bool true) rfl ⟨rfl, rfl⟩ ⟨rfl, rfl⟩ ⟨rfl, rfl⟩ ⟨rfl, rfl⟩
 have s1 := s0.set (m' := { m with down := true, cut := -1 }) 7 (.int .i64 (-1)) rfl ⟨rfl, rfl⟩ ⟨rfl, rfl⟩ ⟨rfl, rfl⟩ ⟨rfl, rfl⟩
 have HS := hid (And.intro s1 (((Zc.refl (fun k => k = r) w).setCell (p := ⟨r, 8, none⟩) rfl (.bool true)).setCell (p := ⟨r, 7, none⟩) rfl (.int .i64 (-1))))
 clear h s0 s1
 go_enter Tryz.func78, Tryz.ntmps78
 go_wp2
 go_ret
 exact ⟨rfl, _, rfl, HS.out.1, HS.out.2⟩
set_option maxHeartbeats 1000000 in
theorem Zl5 (w : World) (h : RfAt w r own m fv nv kv pv) (hc : m.cut = 0) (hf : m.fail < 0) (hb : m.cut ≤ 9223372036854775807 ∧ m.fail ≤ 9223372036854775807) : Calls Tryz.prog 78 #[.pointer (some ⟨r, 0, none⟩)] w fun e w' => e = .returned (.int .i64 m.thing.2) ∧ ∃ X, X = m.thing.1 ∧ RfAt w' r own X fv nv kv pv ∧ Zc (fun k => k = r) w w' := by
 have e : m.thing = (({ m with down := true, cut := -1 } : Rf), 82) := by
  unfold Rf.thing Rf.sooner Go.Proofs.YtlldcogkcjnejaaGreat.sooner
  rw [if_pos hc]
  simp [show ¬ (0 < m.cut) by omega, show ¬ (0 < m.fail) by omega]
 rw [e]
 clear e
 have c5 : w.cell? ⟨r, 5, none⟩ = some (.int .i64 m.did) := h.cell 5
 have c6 : w.cell? ⟨r, 6, none⟩ = some (.int .i64 m.fail) := h.cell 6
 have c7 : w.cell? ⟨r, 7, none⟩ = some (.int .i64 m.cut) := h.cell 7
 have c8 : w.cell? ⟨r, 8, none⟩ = some (.bool m.down) := h.cell 8
 have f5 := h.top.free 5
 have f6 := h.top.free 6
 have f7 := h.top.free 7
 have f8 := h.top.free 8
 rw [hc] at c7
 have d2 : (m.fail == 0) = false := by rw [beq_eq_false_iff_ne]; omega
 have s0 := h.set (m' := { m with down := true }) 8 (.bool true) rfl ⟨rfl, rfl⟩ ⟨rfl, rfl⟩ ⟨rfl, rfl⟩ ⟨rfl, rfl⟩
 have s1 := s0.set (m' := { m with down := true, cut := -1 }) 7 (.int .i64 (-1)) rfl ⟨rfl, rfl⟩ ⟨rfl, rfl⟩ ⟨rfl, rfl⟩ ⟨rfl, rfl⟩
 have HS := hid (And.intro s1 (((Zc.refl (fun k => k = r) w).setCell (p := ⟨r, 8, none⟩) rfl (.bool true)).setCell (p := ⟨r, 7, none⟩) rfl (.int .i64 (-1))))
 clear h s0 s1
 go_enter Tryz.func78, Tryz.ntmps78
 go_wp2
 go_ret
 exact ⟨rfl, _, rfl, HS.out.1, HS.out.2⟩
theorem Zat (w : World) (h : RfAt w r own m fv nv kv pv) (hb : m.cut ≤ 9223372036854775807 ∧ m.fail ≤ 9223372036854775807) : Calls Tryz.prog 78 #[.pointer (some ⟨r, 0, none⟩)] w fun e w' => e = .returned (.int .i64 m.thing.2) ∧ ∃ X, X = m.thing.1 ∧ RfAt w' r own X fv nv kv pv ∧ Zc (fun k => k = r) w w' := by
 rcases Int.lt_trichotomy m.cut 0 with hc | hc | hc
 ·rcases Int.lt_trichotomy m.fail 0 with hf | hf | hf
  ·exact Zl2 w h hc hf hb
  ·exact Zl1 w h hc hf hb
  ·exact Zl0 w h hc hf hb
 ·rcases Int.lt_trichotomy m.fail 0 with hf | hf | hf
  ·exact Zl5 w h hc hf hb
  ·exact Zl4 w h hc hf hb
  ·exact Zl3 w h hc hf hb
 ·rcases Int.lt_trichotomy m.fail 0 with hf | hf | hf
  ·exact Zlz w h hc hf hb
  ·exact Zly w h hc hf hb
  ·exact Zlx w h hc hf hb
theorem Zj9 (n : Nm) (w : World) : Calls Tryz.prog 101 #[.string ⟨n.toArray⟩] w fun e w' => e = .returned (.bool (right n)) ∧ w = w' := by
 unfold right
 generalize hk : n.length = k
 have hs : (⟨n.toArray⟩ : ByteArray).size = k := by simpa [ByteArray.size] using hk
 clear hk
 generalize (⟨n.toArray⟩ : ByteArray) = s at *
 by_cases h1 : 1 ≤ k
 ·have d1 : decide ((k : Int) ≥ 1) = true := by simp; omega
  by_cases h2 : k ≤ 16
  ·have d2 : decide ((k : Int) ≤ 16) = true := by simp; omega
   rw [decide_eq_true h1, decide_eq_true h2]
   clear h1 h2
   go_enter Tryz.func101, Tryz.ntmps101
   go_wp2
   go_ret
   exact ⟨rfl, rfl⟩
  ·have d2 : decide ((k : Int) ≤ 16) = false := by simp; omega
   rw [decide_eq_true h1, decide_eq_false h2]
   clear h1 h2
   go_enter Tryz.func101, Tryz.ntmps101
   go_wp2
   go_ret
   exact ⟨rfl, rfl⟩
 ·have d1 : decide ((k : Int) ≥ 1) = false := by simp; omega
  rw [decide_eq_false h1]
  clear h1
  go_enter Tryz.func101, Tryz.ntmps101
  go_wp2
  go_ret
  exact ⟨rfl, rfl⟩
end
end Go.Proofs.YtlldcogkcjnejaaGreat
