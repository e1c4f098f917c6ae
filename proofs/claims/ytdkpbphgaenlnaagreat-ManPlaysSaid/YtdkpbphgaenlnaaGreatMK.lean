/-
  Texts that the statements' proofs lean on, one behind the other.
-/
import Derived.Test.YtdkpbphgaenlnaaGreatMM
import Derived.Test.YtdkpbphgaenlnaaGreatMX
import Derived.KernelRfl
import Derived.Test.YtdkpbphgaenlnaaGreatMN
import Derived.Test.YtdkpbphgaenlnaaGreatMC
import Derived.Test.YtdkpbphgaenlnaaGreatMQ
import Derived.LoopTactic
/-
  A manifest saved on a disk, plainly: what each thing leaves, and what is there behind a Boot.
-/
namespace Go.Proofs.YtdkpbphgaenlnaaGreat
open Go.RowKit
set_option linter.unusedVariables false
set_option linter.unusedSimpArgs false

def nmM : Nm := [109]
def nmT : Nm := [116]
/-- What an earlier Save has left is removed. -/
def leftP (m : Dk) : Dk × Int := if (m.size nmT).2 = true then m.remove nmT else (m, 0)
/-- Steps in turn, up to one that has an error. -/
def seqP : List (Dk → Dk × Int) → Dk → Dk × Int
  | [], m => (m, 0)
  | s :: r, m => if (s m).2 = 0 then seqP r (s m).1 else s m
def stepsP (b : List UInt8) : List (Dk → Dk × Int) := [leftP, fun m => m.create nmT, fun m => m.append nmT b, fun m => m.sync nmT, fun m => m.rename nmT nmM, Dk.syncDir]
def saveP (m : Dk) (x : Mn) : Dk × Int := if rightM x = true then seqP (stepsP (putM x)) m else (m, 1)
def loadP (m : Dk) : Mn × Bool × Int :=
  if (m.read nmM 0 (m.size nmM).1).2 = 3 then (Mn.none, false, 0)
  else if (m.read nmM 0 (m.size nmM).1).2 = 0 then
    match getM ((m.read nmM 0 (m.size nmM).1).1.getD []) with
    | some x => (x, true, 0)
    | none => (Mn.none, false, 22)
  else (Mn.none, false, (m.read nmM 0 (m.size nmM).1).2)
theorem DkOk.left {K : Nat} {m : Dk} (h : DkOk K m) : DkOk (K + 1) (leftP m).1 := by
  unfold leftP
  split
  · exact h.remove _
  · exact h.mono (by omega)
theorem DkOk.save {K : Nat} {m : Dk} (h : DkOk K m) (x : Mn) : DkOk (K + 4100) (saveP m x).1 := by
  unfold saveP
  split
  rotate_left 1
  · exact h.mono (by omega)
  have hs := putM_small x
  have h1 := h.left
  have h2 := h1.create nmT
  have h3 := h2.append nmT (putM x)
  have h4 := h3.sync nmT
  have h5 := h4.rename nmT nmM
  have h6 := h5.syncDir
  unfold stepsP
  simp only [seqP]
  repeat' split
  all_goals first | exact h6.mono (by omega) | exact h5.mono (by omega) | exact h4.mono (by omega) | exact h3.mono (by omega) | exact h2.mono (by omega) | exact h1.mono (by omega)

/-- The names, and the files, are alike. -/
structure Like (m m' : Dk) : Prop where
  names : m'.names = m.names
  kept : m'.kept = m.kept
  pend : m'.pend = m.pend
  files : m'.files = m.files
  made : m'.made = m.made
  used : m'.used = m.used
  most : m'.most = m.most
theorem thing_cases {m : Dk} (hd : m.down = false) (does : Dk → Dk) : m.thing does = ((does m.sooner).bump, 0) ∨ (¬ Well m ∧ (m.thing does).2 ≠ 0 ∧ Like m (m.thing does).1) := by
  by_cases hc : m.cut = 0
  · refine .inr ⟨fun h => by have := h.cut; omega, ?_⟩
    rw [thing_cut hd hc]
    exact ⟨show (_ : Int) ≠ 0 by simp, ⟨rfl, rfl, rfl, rfl, rfl, rfl, rfl⟩⟩
  by_cases hf : m.fail = 0
  · refine .inr ⟨fun h => by have := h.fail; omega, ?_⟩
    rw [thing_io hd hc hf]
    exact ⟨show (_ : Int) ≠ 0 by simp, ⟨rfl, rfl, rfl, rfl, rfl, rfl, rfl⟩⟩
  exact .inl (thing_ok hd hc hf does)
theorem well_soon {m : Dk} (h : Well m) : Well m.sooner := by rw [h.soon]; exact h

def dirO : Option (Nat × Mn) → Dir
  | none => []
  | some p => [(nmM, p.1)]
def lenO : Option (Nat × Mn) → Int
  | none => 0
  | some p => (putM p.2).length
def lastO : Option (Nat × Mn) → Mn × Bool × Int
  | none => (Mn.none, false, 0)
  | some p => (p.2, true, 0)
theorem lenO_small (o : Option (Nat × Mn)) : 0 ≤ lenO o ∧ lenO o ≤ 4015 := by
  cases o with
  | none => exact ⟨Int.le_refl _, by show (0 : Int) ≤ 4015; omega⟩
  | some p =>
    have := putM_small p.2
    show (0 : Int) ≤ ((putM p.2).length : Int) ∧ ((putM p.2).length : Int) ≤ 4015
    omega
theorem find_t (o : Option (Nat × Mn)) : Dir.find nmT (dirO o) = none := by cases o <;> rfl
theorem put_t (o : Option (Nat × Mn)) (F : Nat) : Dir.put nmT F (dirO o) = dirO o ++ [(nmT, F)] := by cases o <;> rfl
theorem find_t1 (o : Option (Nat × Mn)) (F : Nat) : Dir.find nmT (dirO o ++ [(nmT, F)]) = some F := by cases o <;> rfl
theorem find_m1 (o : Option (Nat × Mn)) (F : Nat) : Dir.find nmM (dirO o ++ [(nmT, F)]) = o.map (·.1) := by cases o <;> rfl
theorem find_m (o : Option (Nat × Mn)) : Dir.find nmM (dirO o) = o.map (·.1) := by cases o <;> rfl
theorem move_t (o : Option (Nat × Mn)) (F : Nat) : (Ch.moved nmT nmM).on (dirO o ++ [(nmT, F)]) = [(nmM, F)] := by cases o <;> rfl
theorem dir_len (o : Option (Nat × Mn)) : (dirO o).length ≤ 1 := by cases o <;> simp [dirO]

/-- A disk whose kept names are those of o (a manifest, whole, and synced, or none); F is the next file's number, or the one in which the other one is written. -/
structure SG (wl : Bool) (m : Dk) (o : Option (Nat × Mn)) (F : Nat) (nm : Dir) (pd : List Ch) (us : Int) : Prop where
  well : wl = true → Well m
  names : m.names = nm
  kept : m.kept = dirO o
  pend : m.pend = pd
  most : 1048576 ≤ m.most
  used : m.used = us
  olds : ∀ p, o = some p → p.1 < F ∧ m.files p.1 = ⟨putM p.2, (putM p.2).length⟩ ∧ rightM p.2 = true
theorem SG.like {wl : Bool} {m m' : Dk} {o : Option (Nat × Mn)} {F : Nat} {nm : Dir} {pd : List Ch} {us : Int} (h : SG wl m o F nm pd us) (hl : Like m m') : SG false m' o F nm pd us :=
  ⟨fun h => (by cases h), hl.names.trans h.names, hl.kept.trans h.kept, hl.pend.trans h.pend, by rw [hl.most]; exact h.most, hl.used.trans h.used, fun p hp => by rw [hl.files]; exact h.olds p hp⟩
section
variable {wl : Bool} {m : Dk} {o : Option (Nat × Mn)} {F : Nat} {us : Int} {b : List UInt8}
theorem SG.len (h : SG wl m o F (dirO o) [] us) : 0 ≤ lenO o ∧ lenO o ≤ 4015 := lenO_small o
theorem SG.left (h : SG wl m o F (dirO o) [] us) : leftP m = (m, 0) := by
  unfold leftP
  rw [size_none (by rw [h.names]; exact find_t o)]
  rfl
/-- A thing, done or not. -/
theorem SG.step {nm nm' : Dir} {pd pd' : List Ch} {us us' : Int} (h : SG wl m o F nm pd us) (hd : m.down = false) {does : Dk → Dk} {Ok : Dk → Prop} {r : Dk × Int} (he : r = m.thing does)
    (hn : (does m.sooner).names = nm') (hk : (does m.sooner).kept = m.kept) (hp : (does m.sooner).pend = pd') (hm : (does m.sooner).most = m.most) (hu : (does m.sooner).used = us') (hf : ∀ i, i < F → (does m.sooner).files i = m.files i)
    (hw : (does m.sooner).down = m.down ∧ (does m.sooner).cut = m.sooner.cut ∧ (does m.sooner).fail = m.sooner.fail) (hok : Ok (does m.sooner).bump) :
    (r.2 = 0 ∧ r.1.down = false ∧ Ok r.1 ∧ SG wl r.1 o F nm' pd' us') ∨ (wl = false ∧ r.2 ≠ 0 ∧ SG false r.1 o F nm pd us ∧ r.1.files = m.files) := by
  subst he
  rcases thing_cases hd does with e | ⟨h1, h2, h3⟩
  · refine .inl ?_
    rw [e]
    refine ⟨rfl, hw.1.trans hd, hok, ⟨fun hwl => ?_, hn, hk.trans h.kept, hp, by show 1048576 ≤ (does m.sooner).most; rw [hm]; exact h.most, hu, fun p hp => ?_⟩⟩
    · have hs := well_soon (h.well hwl)
      exact ⟨hw.1.trans hd, by show (does m.sooner).cut < 0; rw [hw.2.1]; exact hs.cut, by show (does m.sooner).fail < 0; rw [hw.2.2]; exact hs.fail⟩
    · obtain ⟨k1, k2, k3⟩ := h.olds p hp
      exact ⟨k1, (hf _ k1).trans k2, k3⟩
  · refine .inr ⟨?_, h2, h.like h3, h3.files⟩
    cases wl
    · rfl
    · exact absurd (h.well rfl) h1
theorem SG.create (h : SG wl m o F (dirO o) [] us) (hd : m.down = false) (hF : m.made = F) :
    ((m.create nmT).2 = 0 ∧ (m.create nmT).1.down = false ∧ ((m.create nmT).1.files F = ⟨[], 0⟩ ∧ (m.create nmT).1.made = F + 1) ∧ SG wl (m.create nmT).1 o F (dirO o ++ [(nmT, F)]) [.made nmT F] us) ∨ (wl = false ∧ (m.create nmT).2 ≠ 0 ∧ SG false (m.create nmT).1 o F (dirO o) [] us ∧ (m.create nmT).1.files = m.files) := by
  have e : m.create nmT = m.thing (Dk.doCreate nmT) := by
    unfold Dk.create
    rw [if_neg (by rw [hd]; decide), if_neg (by decide), if_neg (by rw [h.names, find_t]; decide), if_neg (by rw [h.names]; have := dir_len o; omega)]
  subst hF
  refine h.step (Ok := fun x => x.files m.made = ⟨[], 0⟩ ∧ x.made = m.made + 1) hd e ?_ rfl ?_ rfl h.used (fun i hi => ?_) ⟨rfl, rfl, rfl⟩ ⟨?_, rfl⟩
  · show Dir.put nmT m.made m.names = _
    rw [h.names, put_t]
  · show m.pend ++ [_] = _
    rw [h.pend]
    rfl
  · show (if i = m.made then _ else _) = _
    rw [if_neg (by omega)]
    rfl
  · show (if m.made = m.made then _ else _) = _
    rw [if_pos rfl]
theorem SG.append (h : SG wl m o F (dirO o ++ [(nmT, F)]) [.made nmT F] us) (hd : m.down = false) (hf : m.files F = ⟨[], 0⟩) (hb : b.length ≤ 4015) (hu : 0 ≤ us ∧ us ≤ 5000) :
    ((m.append nmT b).2 = 0 ∧ (m.append nmT b).1.down = false ∧ (m.append nmT b).1.files F = ⟨b, 0⟩ ∧ SG wl (m.append nmT b).1 o F (dirO o ++ [(nmT, F)]) [.made nmT F] (us + b.length)) ∨ (wl = false ∧ (m.append nmT b).2 ≠ 0 ∧ SG false (m.append nmT b).1 o F (dirO o ++ [(nmT, F)]) [.made nmT F] us ∧ (m.append nmT b).1.files = m.files) := by
  have hw : wrap64 (us + b.length) = us + b.length := IntWalk.wrap64_in _ (by omega)
  have e : m.append nmT b = m.thing (Dk.doAppend F b) := by
    unfold Dk.append
    rw [if_neg (by rw [hd]; decide), h.names, find_t1]
    dsimp only
    rw [h.used, hw, if_neg (by have := h.most; omega)]
  refine h.step (Ok := fun x => x.files F = ⟨b, 0⟩) hd e h.names rfl h.pend rfl ?_ (fun i hi => ?_) ⟨rfl, rfl, rfl⟩ ?_
  · show wrap64 (m.used + b.length) = _
    rw [h.used, hw]
  · show (if i = F then _ else _) = _
    rw [if_neg (by omega)]
    rfl
  · show (if F = F then (⟨(m.files F).bytes ++ b, (m.files F).kept⟩ : Fl) else _) = _
    rw [if_pos rfl, hf]
    rfl
theorem SG.sync {us : Int} (h : SG wl m o F (dirO o ++ [(nmT, F)]) [.made nmT F] us) (hd : m.down = false) (hf : m.files F = ⟨b, 0⟩) :
    ((m.sync nmT).2 = 0 ∧ (m.sync nmT).1.down = false ∧ (m.sync nmT).1.files F = ⟨b, b.length⟩ ∧ SG wl (m.sync nmT).1 o F (dirO o ++ [(nmT, F)]) [.made nmT F] us) ∨ (wl = false ∧ (m.sync nmT).2 ≠ 0 ∧ SG false (m.sync nmT).1 o F (dirO o ++ [(nmT, F)]) [.made nmT F] us ∧ (m.sync nmT).1.files = m.files) := by
  have e : m.sync nmT = m.thing (Dk.doSync F) := by
    unfold Dk.sync
    rw [if_neg (by rw [hd]; decide), h.names, find_t1]
  refine h.step (Ok := fun x => x.files F = ⟨b, b.length⟩) hd e h.names rfl h.pend rfl h.used (fun i hi => ?_) ⟨rfl, rfl, rfl⟩ ?_
  · show (if i = F then _ else _) = _
    rw [if_neg (by omega)]
    rfl
  · show (if F = F then (⟨(m.files F).bytes, (m.files F).bytes.length⟩ : Fl) else _) = _
    rw [if_pos rfl, hf]
theorem SG.rename {us : Int} (h : SG wl m o F (dirO o ++ [(nmT, F)]) [.made nmT F] us) (hd : m.down = false) {z : Fl} (hf : m.files F = z) (hu : 0 ≤ us ∧ us ≤ 10000) :
    ((m.rename nmT nmM).2 = 0 ∧ (m.rename nmT nmM).1.down = false ∧ (m.rename nmT nmM).1.files F = z ∧ SG wl (m.rename nmT nmM).1 o F [(nmM, F)] [.made nmT F, .moved nmT nmM] (us - lenO o)) ∨ (wl = false ∧ (m.rename nmT nmM).2 ≠ 0 ∧ SG false (m.rename nmT nmM).1 o F (dirO o ++ [(nmT, F)]) [.made nmT F] us ∧ (m.rename nmT nmM).1.files = m.files) := by
  have e : m.rename nmT nmM = m.thing (Dk.doRename nmT nmM) := by
    unfold Dk.rename
    rw [if_neg (by rw [hd]; decide), h.names, find_t1]
    dsimp only
    rw [if_neg (by decide)]
  refine h.step (Ok := fun x => x.files F = z) hd e ?_ rfl ?_ rfl ?_ (fun i hi => rfl) ⟨rfl, rfl, rfl⟩ hf
  · show (Ch.moved nmT nmM).on m.names = _
    rw [h.names, move_t]
  · show m.pend ++ [_] = _
    rw [h.pend]
    rfl
  · show wrap64 (m.used - (m.size nmM).1) = _
    have hs : (m.size nmM).1 = lenO o := by
      cases ho : o with
      | none => rw [size_none (by rw [h.names, find_m1, ho]; rfl)]; rfl
      | some p =>
        rw [size_some (f := p.1) (by rw [h.names, find_m1, ho]; rfl), (h.olds p ho).2.1]
        rfl
    have hl := lenO_small o
    rw [hs, h.used]
    exact IntWalk.wrap64_in _ (by omega)
/-- The last thing: all names are kept. -/
theorem SG.done {us : Int} (h : SG wl m o F [(nmM, F)] [.made nmT F, .moved nmT nmM] us) (hd : m.down = false) {x : Mn} (hx : rightM x = true) (hf : m.files F = ⟨putM x, (putM x).length⟩) :
    (m.syncDir.2 = 0 ∧ m.syncDir.1.down = false ∧ m.syncDir.1.made = m.made ∧ SG wl m.syncDir.1 (some (F, x)) (F + 1) [(nmM, F)] [] us) ∨ (wl = false ∧ m.syncDir.2 ≠ 0 ∧ SG false m.syncDir.1 o F [(nmM, F)] [.made nmT F, .moved nmT nmM] us ∧ m.syncDir.1.files = m.files) := by
  have e : m.syncDir = m.thing fun m => m.keep m.pend.length := rfl
  rcases thing_cases hd (fun m => m.keep m.pend.length) with e2 | ⟨h1, h2, h3⟩
  · refine .inl ?_
    rw [e, e2]
    refine ⟨rfl, hd, rfl, ⟨fun hwl => ?_, h.names, ?_, rfl, h.most, h.used, fun p hp => ?_⟩⟩
    · have hs := well_soon (h.well hwl)
      exact ⟨hd, hs.cut, hs.fail⟩
    · show redo (m.pend.take m.pend.length) m.kept = _
      rw [List.take_length, h.pend, h.kept]
      show (Ch.moved nmT nmM).on (Dir.put nmT F (dirO o)) = _
      rw [put_t, move_t]
      rfl
    · injection hp with hp
      subst hp
      exact ⟨Nat.lt_succ_self _, hf, hx⟩
  · refine .inr ⟨?_, h2, h.like h3, h3.files⟩
    cases wl
    · rfl
    · exact absurd (h.well rfl) h1
end

/-- Wherever it has ended: what is there behind a Boot is the one, or the other. -/
def Ends (m : Dk) (o : Option (Nat × Mn)) (x : Mn) : Prop :=
  ∃ F nm pd us, SG false m o F nm pd us ∧ (pd = [] ∨ pd = [.made nmT F] ∨ (pd = [.made nmT F, .moved nmT nmM] ∧ m.files F = ⟨putM x, (putM x).length⟩ ∧ rightM x = true))
theorem load_at {m : Dk} {f : Nat} {x : Mn} (hd : m.down = false) (hf : Dir.find nmM m.names = some f) (hb : (m.files f).bytes = putM x) (hx : rightM x = true) : loadP m = (x, true, 0) := by
  have hr : m.read nmM 0 (m.size nmM).1 = (some (putM x), 0) := by
    rw [size_some hf]
    unfold Dk.read
    rw [if_neg (by rw [hd]; decide), hf]
    dsimp only
    rw [hb, if_neg (by omega)]
    have e : (List.length (putM x) : Int).toNat = (putM x).length := Int.toNat_natCast _
    rw [e, show (0 : Int).toNat = 0 from rfl, List.drop_zero, List.take_length]
  unfold loadP
  rw [hr]
  dsimp only
  rw [if_neg (by decide), if_pos rfl, Option.getD_some, get_putM hx]
theorem load_none {m : Dk} (hd : m.down = false) (hf : Dir.find nmM m.names = none) : loadP m = (Mn.none, false, 0) := by
  have hr : (m.read nmM 0 (m.size nmM).1).2 = 3 := by
    unfold Dk.read
    rw [if_neg (by rw [hd]; decide), hf]
  unfold loadP
  rw [if_pos hr]
theorem SG.load {wl : Bool} {m : Dk} {o : Option (Nat × Mn)} {F : Nat} {pd : List Ch} {us : Int} (h : SG wl m o F (dirO o) pd us) (hd : m.down = false) : loadP m = lastO o := by
  cases ho : o with
  | none => exact load_none hd (by rw [h.names, ho]; rfl)
  | some p =>
    obtain ⟨h1, h2, h3⟩ := h.olds p ho
    exact load_at (f := p.1) hd (by rw [h.names, find_m, ho]; rfl) (by rw [h2]) h3
theorem lose_all {b : List UInt8} (x : Int) : (⟨b, b.length⟩ : Fl).lose x = ⟨b, b.length⟩ := by
  unfold Fl.lose
  dsimp only
  rw [show (min (max x 0) ((b.length : Int) - (b.length : Int))).toNat = 0 by omega, Nat.add_zero, List.take_length]
theorem boot_at {m : Dk} {D : Dir} {f : Nat} {b : List UInt8} (dirs : Int) (l : List Int) (hD : (m.boot dirs l).names = D) (hf : Dir.find nmM D = some f) (hm : D.any (fun p => p.2 == f) = true) (hb : m.files f = ⟨b, b.length⟩) : ((m.boot dirs l).files f).bytes = b := by
  have e : (m.boot dirs l).files f = if (m.boot dirs l).names.any (fun p => p.2 == f) then (m.files f).lose (more l f) else m.files f := rfl
  rw [e, hD, hm, if_pos rfl, hb, lose_all]
theorem Ends.boot {m : Dk} {o : Option (Nat × Mn)} {x : Mn} (h : Ends m o x) (dirs : Int) (l : List Int) : loadP (m.boot dirs l) = lastO o ∨ (rightM x = true ∧ loadP (m.boot dirs l) = (x, true, 0)) := by
  obtain ⟨F, nm, pd, us, hs, hp⟩ := h
  have hd : (m.boot dirs l).down = false := rfl
  have hn : (m.boot dirs l).names = redo (m.pend.take (min (max dirs 0) m.pend.length).toNat) m.kept := rfl
  obtain ⟨k, hk⟩ : ∃ k, (min (max dirs 0) (m.pend.length : Int)).toNat = k := ⟨_, rfl⟩
  rw [hk, hs.pend, hs.kept] at hn
  have was : ∀ D, (m.boot dirs l).names = D → Dir.find nmM D = o.map (·.1) → (∀ p, o = some p → D.any (fun q => q.2 == p.1) = true) → loadP (m.boot dirs l) = lastO o := by
    intro D hD hf hm
    cases ho : o with
    | none => exact load_none hd (by rw [hD, hf, ho]; rfl)
    | some p =>
      obtain ⟨h1, h2, h3⟩ := hs.olds p ho
      exact load_at (f := p.1) hd (by rw [hD, hf, ho]; rfl) (boot_at dirs l hD (by rw [hf, ho]; rfl) (hm p ho) h2) h3
  have w0 : (m.boot dirs l).names = dirO o → loadP (m.boot dirs l) = lastO o := fun e => was _ e (find_m o) fun p hp => by subst hp; simp [dirO]
  have w1 : (m.boot dirs l).names = dirO o ++ [(nmT, F)] → loadP (m.boot dirs l) = lastO o := fun e => was _ e (find_m1 o F) fun p hp => by subst hp; simp [dirO]
  have r1 : redo [.made nmT F] (dirO o) = dirO o ++ [(nmT, F)] := put_t o F
  have r2 : redo [.made nmT F, .moved nmT nmM] (dirO o) = [(nmM, F)] := by
    show (Ch.moved nmT nmM).on (Dir.put nmT F (dirO o)) = _
    rw [put_t, move_t]
  rcases hp with rfl | rfl | ⟨rfl, hf, hx⟩
  · rw [List.take_nil] at hn
    exact .inl (w0 hn)
  · match k with
    | 0 => exact .inl (w0 hn)
    | k + 1 =>
      rw [show ([Ch.made nmT F]).take (k + 1) = [.made nmT F] by simp, r1] at hn
      exact .inl (w1 hn)
  · match k with
    | 0 => exact .inl (w0 hn)
    | 1 => exact .inl (w1 (hn.trans r1))
    | k + 2 =>
      rw [show ([Ch.made nmT F, .moved nmT nmM]).take (k + 2) = [.made nmT F, .moved nmT nmM] by simp, r2] at hn
      refine .inr ⟨hx, load_at (f := F) hd (by rw [hn]; rfl) (boot_at dirs l hn rfl (by simp) hf) hx⟩

/-- A disk on which all is kept. -/
structure SS (wl : Bool) (m : Dk) (o : Option (Nat × Mn)) : Prop where
  sg : SG wl m o m.made (dirO o) [] (lenO o)
  down : m.down = false
/-- A Save: done, or not. -/
theorem SS.save {wl : Bool} {m : Dk} {o : Option (Nat × Mn)} (h : SS wl m o) {x : Mn} (hx : rightM x = true) :
    ((saveP m x).2 = 0 ∧ SS wl (saveP m x).1 (some (m.made, x))) ∨ (wl = false ∧ (saveP m x).2 ≠ 0 ∧ Ends (saveP m x).1 o x) := by
  have hlen := h.sg.len
  have hps := putM_small x
  unfold saveP
  rw [if_pos hx]
  unfold stepsP
  simp only [seqP]
  rw [h.sg.left, if_pos rfl]
  dsimp only
  rcases h.sg.create h.down rfl with ⟨c1, c2, ⟨c3, c5⟩, c4⟩ | ⟨c1, c2, c3, _⟩
  rotate_left 1
  · rw [if_neg c2]
    exact .inr ⟨c1, c2, _, _, _, _, c3, .inl rfl⟩
  rw [if_pos c1]
  generalize (m.create nmT).1 = m1 at c2 c3 c4 c5
  rcases c4.append (b := putM x) c2 c3 hps (by omega) with ⟨a1, a2, a3, a4⟩ | ⟨a1, a2, a3, _⟩
  rotate_left 1
  · rw [if_neg a2]
    exact .inr ⟨a1, a2, _, _, _, _, a3, .inr (.inl rfl)⟩
  have a5 : (m1.append nmT (putM x)).1.made = m1.made := by
    have : m1.append nmT (putM x) = m1.thing (Dk.doAppend m.made (putM x)) := by
      unfold Dk.append
      rw [if_neg (by rw [c2]; decide), c4.names, find_t1]
      dsimp only
      rw [c4.used, IntWalk.wrap64_in _ (by omega), if_neg (by have := c4.most; omega)]
    rw [this]
    rcases thing_cases c2 (Dk.doAppend m.made (putM x)) with e | ⟨_, _, e⟩
    · rw [e]; rfl
    · exact e.made
  rw [if_pos a1]
  generalize (m1.append nmT (putM x)).1 = m2 at a2 a3 a4 a5
  rcases a4.sync a2 a3 with ⟨s1, s2, s3, s4⟩ | ⟨s1, s2, s3, _⟩
  rotate_left 1
  · rw [if_neg s2]
    exact .inr ⟨s1, s2, _, _, _, _, s3, .inr (.inl rfl)⟩
  have s5 : (m2.sync nmT).1.made = m2.made := by
    have : m2.sync nmT = m2.thing (Dk.doSync m.made) := by
      unfold Dk.sync
      rw [if_neg (by rw [a2]; decide), a4.names, find_t1]
    rw [this]
    rcases thing_cases a2 (Dk.doSync m.made) with e | ⟨_, _, e⟩
    · rw [e]; rfl
    · exact e.made
  rw [if_pos s1]
  generalize (m2.sync nmT).1 = m3 at s2 s3 s4 s5
  rcases s4.rename s2 s3 (by omega) with ⟨r1, r2, r3, r4⟩ | ⟨r1, r2, r3, _⟩
  rotate_left 1
  · rw [if_neg r2]
    exact .inr ⟨r1, r2, _, _, _, _, r3, .inr (.inl rfl)⟩
  have r5 : (m3.rename nmT nmM).1.made = m3.made := by
    have : m3.rename nmT nmM = m3.thing (Dk.doRename nmT nmM) := by
      unfold Dk.rename
      rw [if_neg (by rw [s2]; decide), s4.names, find_t1]
      dsimp only
      rw [if_neg (by decide)]
    rw [this]
    rcases thing_cases s2 (Dk.doRename nmT nmM) with e | ⟨_, _, e⟩
    · rw [e]; rfl
    · exact e.made
  rw [if_pos r1]
  generalize (m3.rename nmT nmM).1 = m4 at r2 r3 r4 r5
  rcases r4.done r2 hx r3 with ⟨d1, d2, d5, d4⟩ | ⟨d1, d2, d3, d6⟩
  rotate_left 1
  · rw [if_neg d2]
    exact .inr ⟨d1, d2, _, _, _, _, d3, .inr (.inr ⟨rfl, by rw [d6]; exact r3, hx⟩)⟩
  rw [if_pos d1]
  refine .inl ⟨rfl, ⟨?_, d2⟩⟩
  have e : m4.syncDir.1.made = m.made + 1 := by rw [d5, r5, s5, a5, c5]
  have e2 : lenO o + (putM x).length - lenO o = lenO (some (m.made, x)) := by show _ = ((putM x).length : Int); omega
  rw [e, ← e2]
  exact d4
theorem SS.load {wl : Bool} {m : Dk} {o : Option (Nat × Mn)} (h : SS wl m o) : loadP m = lastO o := h.sg.load h.down
theorem SS.ill {m : Dk} {x : Mn} (hx : rightM x = false) : saveP m x = (m, 1) := by unfold saveP; rw [hx]; rfl
theorem SS.ends {wl : Bool} {m : Dk} {o : Option (Nat × Mn)} (h : SS wl m o) (x : Mn) : Ends m o x := ⟨_, _, _, _, h.sg.like ⟨rfl, rfl, rfl, rfl, rfl, rfl, rfl⟩, .inl rfl⟩
theorem SS.set {wl : Bool} {m m' : Dk} {o : Option (Nat × Mn)} (h : SS wl m o) (hl : Like m m') (hd : m'.down = m.down) : SS false m' o := ⟨by rw [hl.made]; exact h.sg.like hl, hd.trans h.down⟩
theorem SS.new (x : Int) (hx : 1048576 ≤ x ∧ x ≤ 67108864) : SS true (Dk.new x) none :=
  ⟨⟨fun _ => ⟨rfl, show (-1 : Int) < 0 by omega, show (-1 : Int) < 0 by omega⟩, rfl, rfl, rfl, by show 1048576 ≤ min (max x 0) 67108864; omega, rfl, fun p hp => by cases hp⟩, rfl⟩
end Go.Proofs.YtdkpbphgaenlnaaGreat

/-
  The walk of man's Load.
-/
namespace Go.Proofs.YtdkpbphgaenlnaaGreat
open Go.RowKit Go.Maps Go.WideMaps
set_option linter.unusedVariables false
set_option linter.unusedSimpArgs false

theorem results_man3 {fn : Func} {p q r : Tmp} (h : fn.results = #[.cell p 31, .tmp q, .tmp r]) (tmps : Array Value) (w : World) (g : Nat) (t : TypeId) (u0 u1 : Value) (b f : Value)
    (hp : tmps.getD p undef = .pointer (some ⟨g, 0, none⟩)) (hq : tmps.getD q undef = b) (hr : tmps.getD r undef = f) (hg : Whole w g t #[u0, u1]) :
    (results fn tmps).run Tryz.prog w = .ok (.tuple #[.agg #[u0, u1], b, f]) w := by
  have hp' : tmps[p]?.getD undef = .pointer (some ⟨g, 0, none⟩) := by simpa using hp
  have hq' : tmps[q]?.getD undef = b := by simpa using hq
  have hr' : tmps[r]?.getD undef = f := by simpa using hr
  have hi : (Tryz.prog.info? 31).map (·.size) = some 2 := by kernel_rfl
  simp [results, h, hp', hq', hr', asAddr, run_loadVar_row w g t 31 #[u0, u1] (0, 0) _ hg Tryz.underlying31 rfl hi]
/-- What Load hands back. -/
def MnTo3 (w : World) (r : Mn × Bool × Int) (e : Ending) (w' : World) : Prop := ∃ A' k c', e = .returned (.tuple #[.agg #[.slice A' k c', .int .i64 r.1.next], .bool r.2.1, .int .i64 r.2.2]) ∧ w'.ownsRow w.heap.size 3 1 (.slice A' k c') k (r.1.segs.map iV) ∧ Grows w w'
theorem MnTo3.none {w w' : World} (x : Int) (h : Grows w w') : MnTo3 w (Mn.none, false, x) (.returned (.tuple #[.agg #[.slice Option.none 0 0, .int .i64 0], .bool false, .int .i64 x])) w' := ⟨Option.none, 0, 0, rfl, World.ownsRow_nil _ _ _ _, h⟩

section
variable {B d K : Nat} {w0 w : World} {out : Nat → Prop} {m : Dk}
set_option maxRecDepth 100000 in
set_option maxHeartbeats 8000000 in
theorem mload_any (w : World) (h : DkIn B w0 w d out m) (ok : DkOk K m) (hK : K ≤ 100000000) :
    Calls Tryz.prog 21 #[.pointer (some ⟨d, 0, none⟩)] w (MnTo3 w (loadP m)) := by
  have hm := Whole.made w 31 #[.slice none 0 0, .int .i64 0]
  have hg := grows_alloc w (.cells #[.slice none 0 0, .int .i64 0] 31)
  obtain ⟨w1, hw1⟩ : ∃ x, w.alloc (.cells #[.slice none 0 0, .int .i64 0] 31) = x := ⟨_, rfl⟩
  rw [hw1] at hm hg
  have HG := Lib.hid hg
  have HM := Lib.hid hm
  have HS1 := Lib.hid (show w1.heap.size = w.heap.size + 1 by rw [← hw1, World.size_alloc])
  have HD := Lib.hid (h.grow hg)
  have HN := Lib.hid (of_one3 w1)
  obtain ⟨⟨sv, sb⟩, hsz⟩ : ∃ q, m.size nmM = q := ⟨_, rfl⟩
  have hsv : 0 ≤ sv ∧ sv ≤ 100000000 := by
    obtain ⟨own, G, h1, _⟩ := h
    unfold Dk.size at hsz
    cases hf : Dir.find nmM m.names with
    | none => rw [hf] at hsz; injection hsz with h2 _; omega
    | some f =>
      rw [hf] at hsz
      injection hsz with h2 _
      have := (ok.bytes f (h1.find_lt (by decide) hf)).1
      omega
  have HSZ := Lib.hid (fun w' (hg : Grows w1 w') => size_in nmM (HD.out.grow hg) (by decide) hsz)
  obtain ⟨⟨rb, re⟩, hrd⟩ : ∃ q, m.read nmM 0 sv = q := ⟨_, rfl⟩
  have hrlen := fun h0 => read_len (m := m) (n := nmM) (x := 0) (k := sv) h0
  rw [hrd] at hrlen
  have hrr := fun w' (hg : Grows w1 w') => read_got nmM 0 sv (HD.out.grow hg) ok (by omega) (by decide) (by omega) (by omega) hrd
  obtain ⟨r, hr⟩ : ∃ r, loadP m = r := ⟨_, rfl⟩
  rw [hr]
  unfold loadP at hr
  rw [hsz] at hr
  dsimp only at hr
  rw [hrd] at hr
  dsimp only at hr hrlen
  obtain ⟨bs, hbs⟩ : ∃ q, rb.getD [] = q := ⟨_, rfl⟩
  unfold GotTo at hrr
  dsimp only at hrr
  rw [hbs] at hr hrr
  have hbl : re = 0 → bs.length ≤ 100000000 := fun h0 => by
    obtain ⟨b, e, hl⟩ := hrlen h0
    rw [← hbs, e]
    show b.length ≤ 100000000
    omega
  obtain ⟨s, hs⟩ : ∃ s : ByteArray, (⟨([109] : List UInt8).toArray⟩ : ByteArray) = s := ⟨_, rfl⟩
  rw [show nmM = [109] from rfl] at HSZ hrr
  rw [hs] at HN HSZ hrr
  have HRR := Lib.hid hrr
  clear h hm hg hsz hrd hrlen hbs hs hrr ok
  go_enter Tryz.func21, Tryz.ntmps21
  go_wp2_with (fail)
  refine HN.out.mono ?_
  rintro e w2 ⟨rfl, hg2⟩
  have HG2 := Lib.hid hg2
  clear hg2
  go_wp2_with (fail)
  refine (HSZ.out w2 HG2.out).mono ?_
  rintro e w3 ⟨rfl, rfl⟩
  go_wp2_with (fail)
  refine (HRR.out w2 HG2.out).mono ?_
  rintro e w4 ⟨A4, c4, rfl, hs4, hg4⟩
  have HS4 := Lib.hid hs4
  have HG4 := Lib.hid (Grows.trans HG2.out hg4)
  have hm4 := HG4.out.whole HM.out
  have HM4 := Lib.hid hm4
  have k0 := hm4.free 0
  have k1 := hm4.free 1
  have k2 := hm4.cell 0
  have k3 := hm4.cell 1
  simp only [List.getElem?_toArray, List.getElem?_cons_zero, List.getElem?_cons_succ] at k0 k1 k2 k3
  clear hs4 hg4 hm4 hw1
  by_cases h3 : re = 3
  · subst h3
    rw [if_pos rfl] at hr
    subst hr
    go_wp2_with (fail)
    refine bodyPost_ret (results_man3 rfl _ _ w.heap.size _ _ _ (.bool false) (.int .i64 0) rfl rfl rfl (show Whole _ _ _ #[.slice none 0 0, .int .i64 0] from (HM4.out.put 0 _).put 1 _)) rfl ?_
    exact MnTo3.none 0 ((Below.setCell (p := ⟨w.heap.size, 0, none⟩) (HG.out.trans HG4.out) (Nat.le_refl _) _).setCell (p := ⟨w.heap.size, 1, none⟩) (Nat.le_refl _) _)
  have h3b : (re == 3) = false := by rw [beq_eq_false_iff_ne]; exact h3
  rw [if_neg h3] at hr
  by_cases h0 : re = 0
  rotate_left 1
  · have h0b : (re != 0) = true := by rw [bne_iff_ne]; exact h0
    rw [if_neg h0] at hr
    subst hr
    clear h0 h3
    go_wp2_with (fail)
    refine bodyPost_ret (results_man3 rfl _ _ w.heap.size _ _ _ (.bool false) (.int .i64 re) rfl rfl rfl (show Whole _ _ _ #[.slice none 0 0, .int .i64 0] from (HM4.out.put 0 _).put 1 _)) rfl ?_
    exact MnTo3.none re ((Below.setCell (p := ⟨w.heap.size, 0, none⟩) (HG.out.trans HG4.out) (Nat.le_refl _) _).setCell (p := ⟨w.heap.size, 1, none⟩) (Nat.le_refl _) _)
  subst h0
  rw [if_pos rfl] at hr
  have HT := Lib.hid (mget_any w4 A4 bs.length c4 bs HS4.out (by have := hbl rfl; omega))
  obtain ⟨nb, hnb⟩ : ∃ nb, bs.length = nb := ⟨_, rfl⟩
  rw [hnb] at HT ⊢
  obtain ⟨t, ht⟩ : ∃ t, getM bs = t := ⟨_, rfl⟩
  rw [ht] at HT hr
  have HR := Lib.hid hr
  clear h3 h3b hr ht hbl hnb
  go_wp2_with (fail)
  refine HT.out.mono ?_
  rintro e w5 ⟨A5, m5, c5, rfl, ho5, hg5⟩
  obtain ⟨x5, hx5⟩ : ∃ x, (mnOf t).next = x := ⟨_, rfl⟩
  obtain ⟨b5, hb5⟩ : ∃ x, t.isSome = x := ⟨_, rfl⟩
  rw [hx5, hb5]
  have hg6 := grows_alloc w5 (.cells #[.slice A5 m5 c5, .int .i64 x5] 31)
  have hm6 := Whole.made w5 31 #[.slice A5 m5 c5, .int .i64 x5]
  have hm7 := (Grows.trans (hg5 : Grows w4 w5) hg6).whole HM4.out
  have q0 := hm7.free 0
  have q1 := hm7.free 1
  have q2 := hm7.cell 0
  have q3 := hm7.cell 1
  have q4 := hm6.cell 0
  have q5 := hm6.cell 1
  simp only [List.getElem?_toArray, List.getElem?_cons_zero, List.getElem?_cons_succ] at q0 q1 q2 q3 q4 q5
  have HG7 := Lib.hid (show Grows w (w5.alloc (.cells #[.slice A5 m5 c5, .int .i64 x5] 31)) from HG.out.trans (HG4.out.trans (Grows.trans hg5 hg6)))
  have HO7 := Lib.hid (owned_grow ho5 hg6)
  have HM7 := Lib.hid hm7
  have HX := Lib.hid (And.intro hx5 hb5)
  clear ho5 hg5 hx5 hb5 hg6 hm6 hm7 k0 k1 k2 k3
  cases b5 with
  | false =>
    obtain rfl : t = none := by have := HX.out.2; cases t with | none => rfl | some _ => cases this
    have hr := HR.out
    dsimp only at hr
    subst hr
    go_wp2_with (fail)
    refine bodyPost_ret (results_man3 rfl _ _ w.heap.size _ _ _ (.bool false) (.int .i64 22) rfl rfl rfl (show Whole _ _ _ #[.slice none 0 0, .int .i64 0] from (HM7.out.put 0 _).put 1 _)) rfl ?_
    exact MnTo3.none 22 ((Below.setCell (p := ⟨w.heap.size, 0, none⟩) HG7.out (Nat.le_refl _) _).setCell (p := ⟨w.heap.size, 1, none⟩) (Nat.le_refl _) _)
  | true =>
    obtain ⟨x, rfl⟩ : ∃ m, t = some m := by have := HX.out.2; cases t with | none => cases this | some m => exact ⟨m, rfl⟩
    have hr := HR.out
    dsimp only at hr
    subst hr
    obtain ⟨w6, hw6⟩ : ∃ w6, w5.alloc (.cells #[.slice A5 m5 c5, .int .i64 x5] 31) = w6 := ⟨_, rfl⟩
    rw [hw6] at HG7 HO7 HM7 q0 q1 q2 q3 q4 q5
    have HNX := Lib.hid (show x.next = x5 from HX.out.1)
    go_wp2_with (fail)
    refine bodyPost_ret (results_man3 rfl _ _ w.heap.size _ _ _ (.bool true) (.int .i64 0) rfl rfl rfl (show Whole _ _ _ #[.slice A5 m5 c5, .int .i64 x5] from (HM7.out.put 0 _).put 1 _)) rfl ?_
    have hsp : Spares (fun g => g = w.heap.size) w6 ((w6.setCell ⟨w.heap.size, 0, none⟩ (.slice A5 m5 c5)).setCell ⟨w.heap.size, 1, none⟩ (.int .i64 x5)) := ((Spares.refl (fun g => g = w.heap.size) w6).setCell (p := ⟨w.heap.size, 0, none⟩) rfl _).setCell (p := ⟨w.heap.size, 1, none⟩) rfl _
    have hle : w.heap.size < w4.heap.size := by have h1 := HS1.out; have h2 := HG4.out.size; omega
    refine ⟨A5, m5, c5, by rw [HNX.out], owned_from (row_sameM HO7.out fun g hg => hsp.same g (HO7.out.lt g hg).2 (by have := (HO7.out.lt g hg).1; omega)) (Nat.le_of_lt hle), Below.trans HG7.out (hsp.below HG7.out.size fun g hg e => by omega)⟩
end
end Go.Proofs.YtdkpbphgaenlnaaGreat

/-
  The walks of the steps of man's Save.
-/
namespace Go.Proofs.YtdkpbphgaenlnaaGreat
open Go.RowKit Go.Maps Go.WideMaps
set_option linter.unusedVariables false
set_option linter.unusedSimpArgs false

/-- What a step leaves. -/
def StepTo (B : Nat) (w0 : World) (d : Nat) (out : Nat → Prop) (w : World) (r : Dk × Int) (e : Ending) (w' : World) : Prop := e = .returned (.int .i64 r.2) ∧ DkIn B w0 w' d out r.1 ∧ Stays B out w w'
section
variable {B d K : Nat} {w0 w : World} {out : Nat → Prop} {m : Dk}
theorem mremove_any (w : World) (h : DkIn B w0 w d out m) (ok : DkOk K m) (hK : K ≤ 100000000) {s : ByteArray} (hs : (⟨nmT.toArray⟩ : ByteArray) = s) :
    Calls Tryz.prog 42 #[.pointer (some ⟨d, 0, none⟩), .string s] w (StepTo B w0 d out w (leftP m)) := by
  obtain ⟨⟨sv, sb⟩, hsz⟩ : ∃ q, m.size nmT = q := ⟨_, rfl⟩
  have hsi := size_in nmT h (by decide) hsz
  have hrm := remove_in nmT h ok (by omega) (by decide) rfl rfl
  rw [hs] at hsi hrm
  have HSI := Lib.hid hsi
  have HRM := Lib.hid hrm
  have H := Lib.hid h
  unfold leftP
  rw [hsz]
  dsimp only
  obtain ⟨r, hr⟩ : ∃ r, m.remove nmT = r := ⟨_, rfl⟩
  rw [hr] at HRM ⊢
  clear hsi hrm h ok hs hsz hr
  cases sb with
  | false =>
    rw [if_neg (by decide)]
    go_enter Tryz.func42, Tryz.ntmps42
    go_wp2_with (fail)
    refine HSI.out.mono ?_
    rintro e w1 ⟨rfl, rfl⟩
    go_wp2_with (fail)
    go_ret
    exact ⟨rfl, H.out, Stays.grows (Grows.refl _)⟩
  | true =>
    rw [if_pos rfl]
    go_enter Tryz.func42, Tryz.ntmps42
    go_wp2_with (fail)
    refine HSI.out.mono ?_
    rintro e w1 ⟨rfl, rfl⟩
    go_wp2_with (fail)
    refine HRM.out.mono ?_
    rintro e w2 ⟨rfl, hd, hst⟩
    have HX := Lib.hid (And.intro hd hst)
    clear hd hst
    go_wp2_with (fail)
    go_ret
    exact ⟨rfl, HX.out.1, HX.out.2⟩
/-- The closures, at what they have caught. -/
theorem step1_any (w : World) (h : DkIn B w0 w d out m) (ok : DkOk K m) (hK : K ≤ 100000000) {s : ByteArray} (hs : (⟨nmT.toArray⟩ : ByteArray) = s) {bd bt : Nat} (z1 : w.cell? ⟨bd, 0, none⟩ = some (.pointer (some ⟨d, 0, none⟩))) (z2 : w.cell? ⟨bt, 0, none⟩ = some (.string s)) :
    Calls Tryz.prog 41 #[.pointer (some ⟨bd, 0, none⟩), .pointer (some ⟨bt, 0, none⟩)] w (StepTo B w0 d out w (leftP m)) := by
  have HR := Lib.hid (mremove_any w h ok hK hs)
  obtain ⟨r, hr⟩ : ∃ r, leftP m = r := ⟨_, rfl⟩
  rw [hr] at HR ⊢
  clear h ok hs hr
  go_enter Tryz.func41, Tryz.ntmps41
  go_wp2_with (fail)
  refine HR.out.mono ?_
  rintro e w2 ⟨rfl, hd, hst⟩
  have HX := Lib.hid (And.intro hd hst)
  clear hd hst
  go_wp2_with (fail)
  go_ret
  exact ⟨rfl, HX.out.1, HX.out.2⟩
theorem step2_any (w : World) (h : DkIn B w0 w d out m) (ok : DkOk K m) (hK : K ≤ 100000000) {s : ByteArray} (hs : (⟨nmT.toArray⟩ : ByteArray) = s) {bo bt : Nat} (z1 : w.cell? ⟨bo, 0, none⟩ = some (.func (.func 19) #[.pointer (some ⟨d, 0, none⟩)] #[])) (z2 : w.cell? ⟨bt, 0, none⟩ = some (.string s)) :
    Calls Tryz.prog 101 #[.pointer (some ⟨bo, 0, none⟩), .pointer (some ⟨bt, 0, none⟩)] w (StepTo B w0 d out w (m.create nmT)) := by
  have hr0 := create_in nmT h ok (by omega) (by decide) rfl rfl
  rw [hs] at hr0
  obtain ⟨r, hr⟩ : ∃ r, m.create nmT = r := ⟨_, rfl⟩
  rw [hr] at hr0 ⊢
  have HR := Lib.hid hr0
  clear h ok hs hr hr0
  go_enter Tryz.func101, Tryz.ntmps101
  go_wp2_with (fail)
  refine HR.out.mono ?_
  rintro e w2 ⟨rfl, hd, hst⟩
  have HX := Lib.hid (And.intro hd hst)
  clear hd hst
  go_wp2_with (fail)
  go_ret
  exact ⟨rfl, HX.out.1, HX.out.2⟩
theorem step4_any (w : World) (h : DkIn B w0 w d out m) (ok : DkOk K m) (hK : K ≤ 100000000) {s : ByteArray} (hs : (⟨nmT.toArray⟩ : ByteArray) = s) {bo bt : Nat} (z1 : w.cell? ⟨bo, 0, none⟩ = some (.func (.func 46) #[.pointer (some ⟨d, 0, none⟩)] #[])) (z2 : w.cell? ⟨bt, 0, none⟩ = some (.string s)) :
    Calls Tryz.prog 101 #[.pointer (some ⟨bo, 0, none⟩), .pointer (some ⟨bt, 0, none⟩)] w (StepTo B w0 d out w (m.sync nmT)) := by
  have hr0 := sync_in nmT h ok (by omega) (by decide) rfl rfl
  rw [hs] at hr0
  obtain ⟨r, hr⟩ : ∃ r, m.sync nmT = r := ⟨_, rfl⟩
  rw [hr] at hr0 ⊢
  have HR := Lib.hid hr0
  clear h ok hs hr hr0
  go_enter Tryz.func101, Tryz.ntmps101
  go_wp2_with (fail)
  refine HR.out.mono ?_
  rintro e w2 ⟨rfl, hd, hst⟩
  have HX := Lib.hid (And.intro hd hst)
  clear hd hst
  go_wp2_with (fail)
  go_ret
  exact ⟨rfl, HX.out.1, HX.out.2⟩
theorem step3_any (w : World) (h : DkIn B w0 w d out m) (ok : DkOk K m) (hK : K ≤ 100000000) {s : ByteArray} (hs : (⟨nmT.toArray⟩ : ByteArray) = s) {bd bt bb : Nat} (z1 : w.cell? ⟨bd, 0, none⟩ = some (.pointer (some ⟨d, 0, none⟩))) (z2 : w.cell? ⟨bt, 0, none⟩ = some (.string s))
    {A : Option Addr} {n c : Nat} {bs : List UInt8} (z3 : w.cell? ⟨bb, 0, none⟩ = some (.slice A n c)) (hsl : Sl w A n c bs) (hoff : ∀ ad, A = some ad → bs ≠ [] → ad.block < B ∨ out ad.block) (hn : n ≤ 1000000) :
    Calls Tryz.prog 44 #[.pointer (some ⟨bd, 0, none⟩), .pointer (some ⟨bt, 0, none⟩), .pointer (some ⟨bb, 0, none⟩)] w (StepTo B w0 d out w (m.append nmT bs)) := by
  have hr0 := append_in nmT h ok (by omega) (by decide) hsl hoff (by omega) rfl rfl
  rw [hs] at hr0
  obtain ⟨r, hr⟩ : ∃ r, m.append nmT bs = r := ⟨_, rfl⟩
  rw [hr] at hr0 ⊢
  have HR := Lib.hid hr0
  clear h ok hs hr hr0 hsl hoff
  go_enter Tryz.func44, Tryz.ntmps44
  go_wp2_with (fail)
  refine HR.out.mono ?_
  rintro e w2 ⟨rfl, hd, hst⟩
  have HX := Lib.hid (And.intro hd hst)
  clear hd hst
  go_wp2_with (fail)
  go_ret
  exact ⟨rfl, HX.out.1, HX.out.2⟩
set_option maxRecDepth 100000 in
theorem step5_any (w : World) (h : DkIn B w0 w d out m) (ok : DkOk K m) (hK : K ≤ 100000000) {s : ByteArray} (hs : (⟨nmT.toArray⟩ : ByteArray) = s) {bd bt : Nat} (z1 : w.cell? ⟨bd, 0, none⟩ = some (.pointer (some ⟨d, 0, none⟩))) (z2 : w.cell? ⟨bt, 0, none⟩ = some (.string s)) (hd1 : bd < w.heap.size) (ht1 : bt < w.heap.size) :
    Calls Tryz.prog 47 #[.pointer (some ⟨bd, 0, none⟩), .pointer (some ⟨bt, 0, none⟩)] w (StepTo B w0 d out w (m.rename nmT nmM)) := by
  have hr0 := fun w' (hC : Grows w w') => rename_in nmT nmM (h.grow hC) ok (by omega) (by decide) (by decide) rfl rfl
  obtain ⟨s2, hs2⟩ : ∃ s2 : ByteArray, (⟨nmM.toArray⟩ : ByteArray) = s2 := ⟨_, rfl⟩
  have hn := fun w' => of_one3 w'
  rw [show ([109] : List UInt8) = nmM from rfl, hs2] at hn
  rw [hs, hs2] at hr0
  obtain ⟨r, hr⟩ : ∃ r, m.rename nmT nmM = r := ⟨_, rfl⟩
  rw [hr] at hr0 ⊢
  have HR := Lib.hid hr0
  have HN := Lib.hid hn
  have HC := Lib.hid (show ∀ w', Grows w w' → w'.cell? { block := bd, off := 0 } = some (.pointer (some ⟨d, 0, none⟩)) ∧ w'.cell? { block := bt, off := 0 } = some (.string s) from fun w' hC => ⟨(hC.cell (show (⟨bd, 0, none⟩ : Addr).block < w.heap.size from hd1)).trans z1, (hC.cell (show (⟨bt, 0, none⟩ : Addr).block < w.heap.size from ht1)).trans z2⟩)
  clear h ok hs hs2 hr hr0 hn z1 z2
  go_enter Tryz.func47, Tryz.ntmps47
  go_wp2_with (fail)
  refine wp_region_facts_tail (E := Grows) 3 [valFact (.pointer (some ⟨d, 0, none⟩)), valFact (.string s), valFact (.string s2)] mixed (by kernel_rfl) (fun _ _ _ => Grows.trans) (grows_drew _) ?_
  simp only [List.take_succ_cons, List.take_zero, List.drop_succ_cons, List.drop_zero]
  refine f_val (.pointer (some ⟨d, 0, none⟩)) (by rfl) ?_ ?_
  · intro w' hC; obtain ⟨z1, z2⟩ := HC.out w' hC; clear hC; first | (go_simp; done)
  simp only [Act.put, List.setIfInBounds_toArray, List.set_cons_zero, List.set_cons_succ]
  refine f_val (.string s) (by rfl) ?_ ?_
  · intro w' hC; obtain ⟨z1, z2⟩ := HC.out w' hC; clear hC; first | (go_simp; done)
  simp only [Act.put, List.setIfInBounds_toArray, List.set_cons_zero, List.set_cons_succ]
  refine f_call 39 #[.int .i64 3, .int .i64 0] (.string s2) (by rfl) (by intro w' hC; clear hC; go_simp) ?_ ?_
  · intro w' hC hks; exact HN.out w'
  simp only [Act.put, List.setIfInBounds_toArray, List.set_cons_zero, List.set_cons_succ]
  refine wpF_end ?_
  intro w2 hC hks
  have HCw2 := Lib.hid hC
  clear hC hks
  go_wp2_with (fail)
  refine (HR.out w2 HCw2.out).mono ?_
  rintro e w3 ⟨rfl, hd, hst⟩
  have HX := Lib.hid (And.intro hd hst)
  clear hd hst
  go_wp2_with (fail)
  go_ret
  exact ⟨rfl, HX.out.1, (Stays.grows HCw2.out).trans HX.out.2⟩
theorem step6_any (w : World) (h : DkIn B w0 w d out m) (ok : DkOk K m) (hK : K ≤ 100000000) : Calls Tryz.prog 49 #[.pointer (some ⟨d, 0, none⟩)] w (StepTo B w0 d out w m.syncDir) :=
  syncDir_in h ok (by omega) rfl rfl
end
end Go.Proofs.YtdkpbphgaenlnaaGreat

/-
  The walk of man's inTurn, over the steps of a Save.
-/
namespace Go.Proofs.YtdkpbphgaenlnaaGreat
open Go.RowKit Go.Maps Go.WideMaps
set_option linter.unusedVariables false
set_option linter.unusedSimpArgs false

theorem Sl.spareE {own : Nat → Prop} {w w' : World} {A : Option Addr} {n c : Nat} {bs : List UInt8} (h : Sl w A n c bs) (hs : Spares own w w') (ho : ∀ ad, A = some ad → bs ≠ [] → ¬ own ad.block) : Sl w' A n c bs := by
  by_cases hb : bs = []
  · subst hb
    have hl := h.len
    exact ⟨⟨by simpa using hl, fun k v hv => by simp at hv⟩, h.cap, h.bare⟩
  · exact h.spare hs fun ad e => ho ad e hb
/-- The steps of a Save, in memory. -/
structure CloAt (out : Nat → Prop) (w : World) (d : Nat) (s : ByteArray) (bs : List UInt8) (g bd bt bb o1 f1 o2 f2 : Nat) (A : Option Addr) (n c : Nat) : Prop where
  row : Whole w g 82 #[.func (.func 41) #[] #[.pointer (some ⟨bd, 0, none⟩), .pointer (some ⟨bt, 0, none⟩)], .func (.func 101) #[] #[.pointer (some ⟨o1, 0, none⟩), .pointer (some ⟨f1, 0, none⟩)], .func (.func 44) #[] #[.pointer (some ⟨bd, 0, none⟩), .pointer (some ⟨bt, 0, none⟩), .pointer (some ⟨bb, 0, none⟩)], .func (.func 101) #[] #[.pointer (some ⟨o2, 0, none⟩), .pointer (some ⟨f2, 0, none⟩)], .func (.func 47) #[] #[.pointer (some ⟨bd, 0, none⟩), .pointer (some ⟨bt, 0, none⟩)], .func (.func 49) #[.pointer (some ⟨d, 0, none⟩)] #[]]
  xd : Whole w bd 24 #[.pointer (some ⟨d, 0, none⟩)]
  xt : Whole w bt 9 #[.string s]
  xb : Whole w bb 55 #[.slice A n c]
  x1 : Whole w o1 41 #[.func (.func 19) #[.pointer (some ⟨d, 0, none⟩)] #[]]
  y1 : Whole w f1 9 #[.string s]
  x2 : Whole w o2 41 #[.func (.func 46) #[.pointer (some ⟨d, 0, none⟩)] #[]]
  y2 : Whole w f2 9 #[.string s]
  sl : Sl w A n c bs
  off : ∀ ad, A = some ad → bs ≠ [] → out ad.block
  small : bs.length ≤ 4015
  outs : out g ∧ out bd ∧ out bt ∧ out bb ∧ out o1 ∧ out f1 ∧ out o2 ∧ out f2
theorem CloAt.stays {B : Nat} {out : Nat → Prop} {w w' : World} {d : Nat} {s : ByteArray} {bs : List UInt8} {g bd bt bb o1 f1 o2 f2 : Nat} {A : Option Addr} {n c : Nat} (h : CloAt out w d s bs g bd bt bb o1 f1 o2 f2 A n c) (hs : Stays B out w w') : CloAt out w' d s bs g bd bt bb o1 f1 o2 f2 A n c := by
  obtain ⟨q0, q1, q2, q3, q4, q5, q6, q7⟩ := h.outs
  have st : ∀ {t : TypeId} {cs : Array Value} {k : Nat}, Whole w k t cs → out k → Whole w' k t cs := fun hw ho => hw.same (hs.same _ hw.lt fun e => e.2 ho)
  exact ⟨st h.row q0, st h.xd q1, st h.xt q2, st h.xb q3, st h.x1 q4, st h.y1 q5, st h.x2 q6, st h.y2 q7, h.sl.spareE hs (fun ad e hne ho => ho.2 (h.off ad e hne)), h.off, h.small, h.outs⟩
section
variable {B d K : Nat} {w0 w : World} {out : Nat → Prop} {m : Dk}
set_option maxRecDepth 100000 in
set_option maxHeartbeats 8000000 in
theorem inTurn_any (w : World) (h : DkIn B w0 w d out m) (ok : DkOk K m) (hK : K ≤ 90000000) {s : ByteArray} (hs : (⟨nmT.toArray⟩ : ByteArray) = s) {bs : List UInt8} {g bd bt bb o1 f1 o2 f2 : Nat} {A : Option Addr} {n c : Nat} (hc : CloAt out w d s bs g bd bt bb o1 f1 o2 f2 A n c) :
    Calls Tryz.prog 40 #[.slice (some ⟨g, 0, none⟩) 6 6] w (StepTo B w0 d out w (seqP (stepsP bs) m)) := by
  obtain ⟨r, hr⟩ : ∃ r, seqP (stepsP bs) m = r := ⟨_, rfl⟩
  rw [hr]
  have H := Lib.hid h
  have HO := Lib.hid ok
  have HC := Lib.hid hc
  have HRR := Lib.hid hr
  clear h ok hc hr
  go_enter Tryz.func40, Tryz.ntmps40
  go_wp2_with (fail)
  go_loopw [8] (fun i wr => ∃ (j : Nat) (mj : Dk), j ≤ 6 ∧ i = .int .i64 (j : Nat) ∧ Hid (DkIn B w0 wr d out mj) ∧ Hid (DkOk (K + j * 4100) mj) ∧ Hid (CloAt out wr d s bs g bd bt bb o1 f1 o2 f2 A n c) ∧ Hid (seqP ((stepsP bs).drop j) mj = r) ∧ Hid (Stays B out w wr)) (fun i _ => 6 - (intOf i).toNat)
  case atStart => exact ⟨0, m, by omega, rfl, H, Lib.hid (HO.out.mono (by omega)), HC, HRR, Lib.hid (Stays.grows (Grows.refl _))⟩
  case round =>
    obtain ⟨j, mj, hj, rfl, HD, HOK, HCL, HQ, HS⟩ := hrel
    have HKJ := Lib.hid (show K + j * 4100 ≤ 95000000 by omega)
    obtain rfl | rfl | rfl | rfl | rfl | rfl | rfl : j = 0 ∨ j = 1 ∨ j = 2 ∨ j = 3 ∨ j = 4 ∨ j = 5 ∨ j = 6 := by omega
    · have hst := step1_any wr HD.out HOK.out (by have := HKJ.out; omega) hs (HCL.out.xd.cell 0) (HCL.out.xt.cell 0)
      have hok := HOK.out.left
      have hq := HQ.out
      rw [show (stepsP bs).drop 0 = (fun m => leftP m) :: (stepsP bs).drop 1 from rfl, seqP] at hq
      obtain ⟨⟨m', er⟩, he⟩ : ∃ q, leftP mj = q := ⟨_, rfl⟩
      rw [he] at hst hok hq
      have hcell := HCL.out.row.cell 0
      simp only [List.getElem?_toArray, List.getElem?_cons_zero, List.getElem?_cons_succ] at hcell
      have HST := Lib.hid hst
      have HOK2 := Lib.hid (hok.mono (show _ ≤ K + 1 * 4100 by have := HCL.out.small; omega))
      have HQ2 := Lib.hid hq
      clear hst hok hq he
      by_cases her : er = 0
      · subst her
        go_wp2_with (fail)
        refine HST.out.mono ?_
        rintro e w5 ⟨rfl, hd, hs5⟩
        have HD5 := Lib.hid hd
        have HCL5 := Lib.hid (HCL.out.stays hs5)
        have HS5 := Lib.hid (HS.out.trans hs5)
        have HQ5 := Lib.hid (show seqP ((stepsP bs).drop 1) m' = r from by have := HQ2.out; first | (rw [if_pos trivial] at this; exact this) | (rw [if_pos rfl] at this; exact this))
        clear hd hs5 hcell
        go_wp2_with (fail)
        go_roundw
        case rel => exact ⟨1, m', by omega, by first | rfl | go_num, HD5, HOK2, HCL5, HQ5, HS5⟩
        case measure => simp [intOf]
      · have herb : (er != 0) = true := by rw [bne_iff_ne]; exact her
        obtain rfl : r = (m', er) := by have := HQ2.out; rw [if_neg her] at this; exact this.symm
        clear her
        go_wp2_with (fail)
        refine HST.out.mono ?_
        rintro e w5 ⟨rfl, hd, hs5⟩
        have HD5 := Lib.hid hd
        have HS5 := Lib.hid (HS.out.trans hs5)
        clear hd hs5 hcell
        go_wp2_with (fail)
        go_ret
        exact ⟨rfl, HD5.out, HS5.out⟩
    · have hst := step2_any wr HD.out HOK.out (by have := HKJ.out; omega) hs (HCL.out.x1.cell 0) (HCL.out.y1.cell 0)
      have hok := HOK.out.create nmT
      have hq := HQ.out
      rw [show (stepsP bs).drop 1 = (fun m => m.create nmT) :: (stepsP bs).drop 2 from rfl, seqP] at hq
      obtain ⟨⟨m', er⟩, he⟩ : ∃ q, mj.create nmT = q := ⟨_, rfl⟩
      rw [he] at hst hok hq
      have hcell := HCL.out.row.cell 1
      simp only [List.getElem?_toArray, List.getElem?_cons_zero, List.getElem?_cons_succ] at hcell
      have HST := Lib.hid hst
      have HOK2 := Lib.hid (hok.mono (show _ ≤ K + 2 * 4100 by have := HCL.out.small; omega))
      have HQ2 := Lib.hid hq
      clear hst hok hq he
      by_cases her : er = 0
      · subst her
        go_wp2_with (fail)
        refine HST.out.mono ?_
        rintro e w5 ⟨rfl, hd, hs5⟩
        have HD5 := Lib.hid hd
        have HCL5 := Lib.hid (HCL.out.stays hs5)
        have HS5 := Lib.hid (HS.out.trans hs5)
        have HQ5 := Lib.hid (show seqP ((stepsP bs).drop 2) m' = r from by have := HQ2.out; first | (rw [if_pos trivial] at this; exact this) | (rw [if_pos rfl] at this; exact this))
        clear hd hs5 hcell
        go_wp2_with (fail)
        go_roundw
        case rel => exact ⟨2, m', by omega, by first | rfl | go_num, HD5, HOK2, HCL5, HQ5, HS5⟩
        case measure => simp [intOf]
      · have herb : (er != 0) = true := by rw [bne_iff_ne]; exact her
        obtain rfl : r = (m', er) := by have := HQ2.out; rw [if_neg her] at this; exact this.symm
        clear her
        go_wp2_with (fail)
        refine HST.out.mono ?_
        rintro e w5 ⟨rfl, hd, hs5⟩
        have HD5 := Lib.hid hd
        have HS5 := Lib.hid (HS.out.trans hs5)
        clear hd hs5 hcell
        go_wp2_with (fail)
        go_ret
        exact ⟨rfl, HD5.out, HS5.out⟩
    · have hst := step3_any wr HD.out HOK.out (by have := HKJ.out; omega) hs (HCL.out.xd.cell 0) (HCL.out.xt.cell 0) (HCL.out.xb.cell 0) HCL.out.sl (fun ad e hne => .inr (HCL.out.off ad e hne)) (by have := HCL.out.small; have := HCL.out.sl.len; omega)
      have hok := HOK.out.append nmT bs
      have hq := HQ.out
      rw [show (stepsP bs).drop 2 = (fun m => m.append nmT bs) :: (stepsP bs).drop 3 from rfl, seqP] at hq
      obtain ⟨⟨m', er⟩, he⟩ : ∃ q, mj.append nmT bs = q := ⟨_, rfl⟩
      rw [he] at hst hok hq
      have hcell := HCL.out.row.cell 2
      simp only [List.getElem?_toArray, List.getElem?_cons_zero, List.getElem?_cons_succ] at hcell
      have HST := Lib.hid hst
      have HOK2 := Lib.hid (hok.mono (show _ ≤ K + 3 * 4100 by have := HCL.out.small; omega))
      have HQ2 := Lib.hid hq
      clear hst hok hq he
      by_cases her : er = 0
      · subst her
        go_wp2_with (fail)
        refine HST.out.mono ?_
        rintro e w5 ⟨rfl, hd, hs5⟩
        have HD5 := Lib.hid hd
        have HCL5 := Lib.hid (HCL.out.stays hs5)
        have HS5 := Lib.hid (HS.out.trans hs5)
        have HQ5 := Lib.hid (show seqP ((stepsP bs).drop 3) m' = r from by have := HQ2.out; first | (rw [if_pos trivial] at this; exact this) | (rw [if_pos rfl] at this; exact this))
        clear hd hs5 hcell
        go_wp2_with (fail)
        go_roundw
        case rel => exact ⟨3, m', by omega, by first | rfl | go_num, HD5, HOK2, HCL5, HQ5, HS5⟩
        case measure => simp [intOf]
      · have herb : (er != 0) = true := by rw [bne_iff_ne]; exact her
        obtain rfl : r = (m', er) := by have := HQ2.out; rw [if_neg her] at this; exact this.symm
        clear her
        go_wp2_with (fail)
        refine HST.out.mono ?_
        rintro e w5 ⟨rfl, hd, hs5⟩
        have HD5 := Lib.hid hd
        have HS5 := Lib.hid (HS.out.trans hs5)
        clear hd hs5 hcell
        go_wp2_with (fail)
        go_ret
        exact ⟨rfl, HD5.out, HS5.out⟩
    · have hst := step4_any wr HD.out HOK.out (by have := HKJ.out; omega) hs (HCL.out.x2.cell 0) (HCL.out.y2.cell 0)
      have hok := HOK.out.sync nmT
      have hq := HQ.out
      rw [show (stepsP bs).drop 3 = (fun m => m.sync nmT) :: (stepsP bs).drop 4 from rfl, seqP] at hq
      obtain ⟨⟨m', er⟩, he⟩ : ∃ q, mj.sync nmT = q := ⟨_, rfl⟩
      rw [he] at hst hok hq
      have hcell := HCL.out.row.cell 3
      simp only [List.getElem?_toArray, List.getElem?_cons_zero, List.getElem?_cons_succ] at hcell
      have HST := Lib.hid hst
      have HOK2 := Lib.hid (hok.mono (show _ ≤ K + 4 * 4100 by have := HCL.out.small; omega))
      have HQ2 := Lib.hid hq
      clear hst hok hq he
      by_cases her : er = 0
      · subst her
        go_wp2_with (fail)
        refine HST.out.mono ?_
        rintro e w5 ⟨rfl, hd, hs5⟩
        have HD5 := Lib.hid hd
        have HCL5 := Lib.hid (HCL.out.stays hs5)
        have HS5 := Lib.hid (HS.out.trans hs5)
        have HQ5 := Lib.hid (show seqP ((stepsP bs).drop 4) m' = r from by have := HQ2.out; first | (rw [if_pos trivial] at this; exact this) | (rw [if_pos rfl] at this; exact this))
        clear hd hs5 hcell
        go_wp2_with (fail)
        go_roundw
        case rel => exact ⟨4, m', by omega, by first | rfl | go_num, HD5, HOK2, HCL5, HQ5, HS5⟩
        case measure => simp [intOf]
      · have herb : (er != 0) = true := by rw [bne_iff_ne]; exact her
        obtain rfl : r = (m', er) := by have := HQ2.out; rw [if_neg her] at this; exact this.symm
        clear her
        go_wp2_with (fail)
        refine HST.out.mono ?_
        rintro e w5 ⟨rfl, hd, hs5⟩
        have HD5 := Lib.hid hd
        have HS5 := Lib.hid (HS.out.trans hs5)
        clear hd hs5 hcell
        go_wp2_with (fail)
        go_ret
        exact ⟨rfl, HD5.out, HS5.out⟩
    · have hst := step5_any wr HD.out HOK.out (by have := HKJ.out; omega) hs (HCL.out.xd.cell 0) (HCL.out.xt.cell 0) HCL.out.xd.lt HCL.out.xt.lt
      have hok := HOK.out.rename nmT nmM
      have hq := HQ.out
      rw [show (stepsP bs).drop 4 = (fun m => m.rename nmT nmM) :: (stepsP bs).drop 5 from rfl, seqP] at hq
      obtain ⟨⟨m', er⟩, he⟩ : ∃ q, mj.rename nmT nmM = q := ⟨_, rfl⟩
      rw [he] at hst hok hq
      have hcell := HCL.out.row.cell 4
      simp only [List.getElem?_toArray, List.getElem?_cons_zero, List.getElem?_cons_succ] at hcell
      have HST := Lib.hid hst
      have HOK2 := Lib.hid (hok.mono (show _ ≤ K + 5 * 4100 by have := HCL.out.small; omega))
      have HQ2 := Lib.hid hq
      clear hst hok hq he
      by_cases her : er = 0
      · subst her
        go_wp2_with (fail)
        refine HST.out.mono ?_
        rintro e w5 ⟨rfl, hd, hs5⟩
        have HD5 := Lib.hid hd
        have HCL5 := Lib.hid (HCL.out.stays hs5)
        have HS5 := Lib.hid (HS.out.trans hs5)
        have HQ5 := Lib.hid (show seqP ((stepsP bs).drop 5) m' = r from by have := HQ2.out; first | (rw [if_pos trivial] at this; exact this) | (rw [if_pos rfl] at this; exact this))
        clear hd hs5 hcell
        go_wp2_with (fail)
        go_roundw
        case rel => exact ⟨5, m', by omega, by first | rfl | go_num, HD5, HOK2, HCL5, HQ5, HS5⟩
        case measure => simp [intOf]
      · have herb : (er != 0) = true := by rw [bne_iff_ne]; exact her
        obtain rfl : r = (m', er) := by have := HQ2.out; rw [if_neg her] at this; exact this.symm
        clear her
        go_wp2_with (fail)
        refine HST.out.mono ?_
        rintro e w5 ⟨rfl, hd, hs5⟩
        have HD5 := Lib.hid hd
        have HS5 := Lib.hid (HS.out.trans hs5)
        clear hd hs5 hcell
        go_wp2_with (fail)
        go_ret
        exact ⟨rfl, HD5.out, HS5.out⟩
    · have hst := step6_any wr HD.out HOK.out (by have := HKJ.out; omega)
      have hok := HOK.out.syncDir
      have hq := HQ.out
      rw [show (stepsP bs).drop 5 = (fun m => m.syncDir) :: (stepsP bs).drop 6 from rfl, seqP] at hq
      obtain ⟨⟨m', er⟩, he⟩ : ∃ q, mj.syncDir = q := ⟨_, rfl⟩
      rw [he] at hst hok hq
      have hcell := HCL.out.row.cell 5
      simp only [List.getElem?_toArray, List.getElem?_cons_zero, List.getElem?_cons_succ] at hcell
      have HST := Lib.hid hst
      have HOK2 := Lib.hid (hok.mono (show _ ≤ K + 6 * 4100 by have := HCL.out.small; omega))
      have HQ2 := Lib.hid hq
      clear hst hok hq he
      by_cases her : er = 0
      · subst her
        go_wp2_with (fail)
        refine HST.out.mono ?_
        rintro e w5 ⟨rfl, hd, hs5⟩
        have HD5 := Lib.hid hd
        have HCL5 := Lib.hid (HCL.out.stays hs5)
        have HS5 := Lib.hid (HS.out.trans hs5)
        have HQ5 := Lib.hid (show seqP ((stepsP bs).drop 6) m' = r from by have := HQ2.out; first | (rw [if_pos trivial] at this; exact this) | (rw [if_pos rfl] at this; exact this))
        clear hd hs5 hcell
        go_wp2_with (fail)
        go_roundw
        case rel => exact ⟨6, m', by omega, by first | rfl | go_num, HD5, HOK2, HCL5, HQ5, HS5⟩
        case measure => simp [intOf]
      · have herb : (er != 0) = true := by rw [bne_iff_ne]; exact her
        obtain rfl : r = (m', er) := by have := HQ2.out; rw [if_neg her] at this; exact this.symm
        clear her
        go_wp2_with (fail)
        refine HST.out.mono ?_
        rintro e w5 ⟨rfl, hd, hs5⟩
        have HD5 := Lib.hid hd
        have HS5 := Lib.hid (HS.out.trans hs5)
        clear hd hs5 hcell
        go_wp2_with (fail)
        go_ret
        exact ⟨rfl, HD5.out, HS5.out⟩
    · obtain rfl : r = (mj, 0) := by have := HQ.out; exact this.symm
      go_wp2_with (fail)
      go_ret
      exact ⟨rfl, HD.out, HS.out⟩
end
end Go.Proofs.YtdkpbphgaenlnaaGreat
