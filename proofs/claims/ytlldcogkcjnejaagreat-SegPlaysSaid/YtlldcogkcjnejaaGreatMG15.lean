import Derived.Test.YtlldcogkcjnejaaGreatRfBoot
import Derived.Test.YtlldcogkcjnejaaGreatMG14
import Derived.Test.YtlldcogkcjnejaaGreatMG06
import Derived.Deep.Matrix
import Derived.Deep.SlicePairs
import Derived.Test.YtlldcogkcjnejaaGreatMG00
import Derived.ProofKit
import Derived.ChangeOld
import Derived.Test.YtlldcogkcjnejaaGreatMG07
import Derived.Lib.Bytealg
import Derived.Lib.SlicesCompact
import Derived.Sort.Walk0
set_option linter.unusedVariables false
namespace Go.Proofs.YtlldcogkcjnejaaGreat
open Go.RowKit Go.Maps Go.WideMaps
def RfOk (K : Nat) (x : Rf) : Prop := 0 ≤ x.most ∧ ∀ f ∈ x.files, f.bytes.length ≤ K ∧ f.kept ≤ f.bytes.length
section
variable {K K' : Nat} {x x' : Rf} {m : Dk}
theorem RfOk.of (h : RfOk K x) (e : x'.files = x.files) (hK : K ≤ K') (e2 : x'.most = x.most := by rfl) : RfOk K' x' := ⟨e2 ▸ h.1, fun f hf => ⟨Nat.le_trans (h.2 f (e ▸ hf)).1 hK, (h.2 f (e ▸ hf)).2⟩⟩
theorem J2 (x : Rf) : x.thing.1.files = x.files := by
 unfold Rf.thing
 split
 ·rfl
 ·split <;> rfl
theorem J0 (x : Rf) : x.thing.1.most = x.most := by
 unfold Rf.thing
 split
 ·rfl
 ·split <;> rfl
theorem RfOk.thing (h : RfOk K x) (hK : K ≤ K') {X : Rf} (hX : RfOk K' X) : RfOk K' (if x.thing.2 = 0 then (X, (0 : Int)) else x.thing).1 := by
 split
 ·exact hX
 ·exact h.of (J2 x) hK (J0 x)
theorem RfOk.set (h : RfOk K x) (hK : K ≤ K') {k : Nat} {f : Fl} (hf : f.bytes.length ≤ K' ∧ f.kept ≤ f.bytes.length) (e : x'.files = x.files) (e2 : x'.most = x.most := by rfl) : RfOk K' (x'.set k f) := ⟨(show 0 ≤ x'.most from e2 ▸ h.1), fun g hg => by
 rcases List.mem_or_eq_of_mem_set (show g ∈ x'.files.set k f from hg) with h1 | h1
 ·exact ⟨Nat.le_trans (h.2 g (e ▸ h1)).1 hK, (h.2 g (e ▸ h1)).2⟩
 ·rw [h1]; exact hf⟩
theorem RfOk.at (h : RfOk K x) (k : Nat) : (x.files.getD k ⟨[], 0⟩).bytes.length ≤ K ∧ (x.files.getD k ⟨[], 0⟩).kept ≤ (x.files.getD k ⟨[], 0⟩).bytes.length := by
 rw [List.getD_eq_getElem?_getD]
 cases hk : x.files[k]? with
 | none => exact ⟨Nat.zero_le _, Nat.le_refl _⟩
 | some f => exact h.2 f (List.mem_of_getElem? hk)
theorem RfOk.new (y : Int) : RfOk 0 (Rf.new y) := ⟨show 0 ≤ min (max y 0) 67108864 by omega, fun f hf => by cases hf⟩
theorem RfOk.create (h : RfOk K x) (n : Nm) : RfOk (K + 1) (x.create n).1 := by
 unfold Rf.create
 split
 ·exact h.of rfl (Nat.le_succ _)
 ·split
  ·exact h.of rfl (Nat.le_succ _)
  ·split
   ·exact h.of rfl (Nat.le_succ _)
   ·split
    ·exact h.of rfl (Nat.le_succ _)
    ·refine h.thing (Nat.le_succ _) ⟨(show 0 ≤ x.thing.1.most from J0 x ▸ h.1), fun f hf => ?_⟩
     rcases List.mem_append.1 (show f ∈ x.files ++ [(⟨[], 0⟩ : Fl)] from hf) with h1 | h1
     ·exact ⟨Nat.le_succ_of_le (h.2 f h1).1, (h.2 f h1).2⟩
     ·rw [List.mem_singleton.1 h1]; exact ⟨Nat.zero_le _, Nat.le_refl _⟩
theorem RfOk.append (h : RfOk K x) (n : Nm) (b : List UInt8) : RfOk (K + b.length) (x.append n b).1 := by
 unfold Rf.append
 split
 ·exact h.of rfl (Nat.le_add_right _ _)
 ·split
  ·exact h.of rfl (Nat.le_add_right _ _)
  ·rename_i f hf
   split
   ·exact h.of rfl (Nat.le_add_right _ _)
   ·refine h.thing (Nat.le_add_right _ _) (h.set (Nat.le_add_right _ _) ?_ (J2 x) (J0 x))
    have := h.at f
    dsimp only
    rw [List.length_append]
    omega
theorem RfOk.sync (h : RfOk K x) (n : Nm) : RfOk K (x.sync n).1 := by
 unfold Rf.sync
 split
 ·exact h
 ·split
  ·exact h
  ·rename_i f hf
   exact h.thing (Nat.le_refl _) (h.set (Nat.le_refl _) ⟨(h.at f).1, Nat.le_refl _⟩ (J2 x) (J0 x))
theorem RfOk.remove (h : RfOk K x) (n : Nm) : RfOk K (x.remove n).1 := by
 unfold Rf.remove
 split
 ·exact h
 ·split
  ·exact h
  ·exact h.thing (Nat.le_refl _) (h.of (J2 x) (Nat.le_refl _) (J0 x))
theorem RfOk.syncDir (h : RfOk K x) : RfOk K x.syncDir.1 := by
 unfold Rf.syncDir
 split
 ·exact h
 ·exact h.thing (Nat.le_refl _) (h.of (J2 x) (Nat.le_refl _) (J0 x))
theorem RfOk.boot (h : RfOk K x) (dirs : Int) (l : List Int) : RfOk K (x.boot dirs l) := ⟨h.1, fun f hf => by
 obtain ⟨i, hi, e⟩ := List.mem_mapIdx.1 (show f ∈ x.files.mapIdx fun i f => f.lose (more l i) from hf)
 have h1 := h.2 _ (List.getElem_mem hi)
 rw [← e]
 unfold Fl.lose
 dsimp only
 rw [List.length_take]
 omega⟩
theorem RfOk.flip (h : RfOk K x) (n : Nm) (y : Int) (z : Nat) : RfOk K (x.flip n y z).1 := by
 unfold Rf.flip
 split
 ·exact h
 ·rename_i f hf
  split
  ·exact h
  ·exact h.set (Nat.le_refl _) (by dsimp only; rw [Zt]; exact h.at f) rfl
end
def chSmall : Ch → Prop
 | .made n _ => n.length ≤ 16
 | .moved _ to => to.length ≤ 16
 | .taken _ => True
def NmOk (m : Dk) : Prop := (∀ p ∈ m.kept, p.1.length ≤ 16) ∧ ∀ c ∈ m.pend, chSmall c
section
variable {K K' : Nat} {x x' : Rf} {m m' : Dk}
theorem Zlo {n : Nm} {f : Nat} {l : Dir} {p : Nm × Nat} (h : p ∈ Dir.put n f l) : p = (n, f) ∨ p ∈ l := by
 rcases Zif h with h | h
 ·exact .inl h
 ·exact .inr (Zdo.1 h).1
theorem Zon {c : Ch} {l : Dir} (hc : chSmall c) (h : ∀ p ∈ l, p.1.length ≤ 16) : ∀ p ∈ c.on l, p.1.length ≤ 16 := by
 cases c with
 | made n f =>
   intro p hp
   rcases Zlo (show p ∈ Dir.put n f l from hp) with rfl | h1
   ·exact hc
   ·exact h p h1
 | taken n => exact fun p hp => h p (Zdo.1 (show p ∈ Dir.del n l from hp)).1
 | moved n to =>
   show ∀ p ∈ (match Dir.find n l with | some f => Dir.put to f (Dir.del n l) | none => l), _
   cases Dir.find n l with
   | none => exact h
   | some f =>
     intro p hp
     rcases Zlo (show p ∈ Dir.put to f (Dir.del n l) from hp) with rfl | h1
     ·exact hc
     ·exact h p (Zdo.1 h1).1
theorem redo_small : ∀ (cs : List Ch) {l : Dir}, (∀ c ∈ cs, chSmall c) → (∀ p ∈ l, p.1.length ≤ 16) → ∀ p ∈ redo cs l, p.1.length ≤ 16
 | [], _, _, h => h
 | c :: cs, l, hc, h => redo_small cs (l := c.on l) (fun d hd => hc d (List.mem_cons_of_mem _ hd)) (Zon (hc c List.mem_cons_self) h)
theorem Zia {n : Nm} (h : ¬ right n = false) : n.length ≤ 16 := by
 rw [Bool.not_eq_false] at h
 unfold right at h
 rw [Bool.and_eq_true, decide_eq_true_eq, decide_eq_true_eq] at h
 exact h.2
theorem NmOk.of (h : NmOk m) (h1 : m'.kept = m.kept) (h2 : m'.pend = m.pend) : NmOk m' := ⟨h1 ▸ h.1, h2 ▸ h.2⟩
theorem NmOk.thing (h : NmOk m) {does : Dk → Dk} (hd : NmOk (does m.sooner)) : NmOk (m.thing does).1 := by
 unfold Dk.thing
 split
 ·exact h
 ·split
  ·exact h.of rfl rfl
  ·split
   ·exact h.of rfl rfl
   ·exact hd.of rfl rfl
theorem NmOk.change (h : NmOk m) {c : Ch} (hc : chSmall c) (h1 : m'.kept = m.kept) (h2 : m'.pend = m.pend) : NmOk (m'.change c) := ⟨h1 ▸ h.1, fun d hd => by
 rcases List.mem_append.1 (show d ∈ m'.pend ++ [c] from hd) with h3 | h3
 ·exact h.2 d (h2 ▸ h3)
 ·rw [List.mem_singleton.1 h3]; exact hc⟩
theorem NmOk.new (y : Int) : NmOk (Dk.new y) := ⟨fun p hp => (by cases hp), fun c hc => (by cases hc)⟩
theorem NmOk.create (h : NmOk m) (n : Nm) : NmOk (m.create n).1 := by
 unfold Dk.create
 split
 ·exact h
 ·split
  ·exact h
  ·rename_i hr
   split
   ·exact h
   ·split
    ·exact h
    ·exact h.thing (h.change (c := .made n m.sooner.made) (Zia hr) rfl rfl)
theorem NmOk.append (h : NmOk m) (n : Nm) (b : List UInt8) : NmOk (m.append n b).1 := by
 unfold Dk.append
 split
 ·exact h
 ·split
  ·exact h
  ·split
   ·exact h
   ·exact h.thing (h.of rfl rfl)
theorem NmOk.sync (h : NmOk m) (n : Nm) : NmOk (m.sync n).1 := by
 unfold Dk.sync
 split
 ·exact h
 ·split
  ·exact h
  ·exact h.thing (h.of rfl rfl)
theorem NmOk.remove (h : NmOk m) (n : Nm) : NmOk (m.remove n).1 := by
 unfold Dk.remove
 split
 ·exact h
 ·split
  ·exact h
  ·exact h.thing (h.change (c := .taken n) trivial rfl rfl)
theorem NmOk.keep (h : NmOk m) (k : Nat) (h1 : m'.kept = m.kept) (h2 : m'.pend = m.pend) : NmOk (m'.keep k) :=
 ⟨redo_small _ (fun c hc => h.2 c (h2 ▸ List.mem_of_mem_take hc)) (h1 ▸ h.1), fun c hc => (by cases hc)⟩
theorem NmOk.syncDir (h : NmOk m) : NmOk m.syncDir.1 := h.thing (h.keep _ rfl rfl)
theorem NmOk.boot (h : NmOk m) (dirs : Int) (l : List Int) : NmOk (m.boot dirs l) := (h.keep (min (max dirs 0) (m.pend.length : Int)).toNat rfl rfl).of rfl rfl
theorem NmOk.flip (h : NmOk m) (n : Nm) (y : Int) (z : Nat) : NmOk (m.flip n y z).1 := by
 unfold Dk.flip
 split
 ·exact h
 ·split
  ·exact h
  ·exact h.of rfl rfl
end
structure G2 (K : Nat) (m : Dk) (x : Rf) : Prop where
 gl : Gl m x
 ok : DkOk K m
 rk : RfOk K x
 nm : NmOk m
section
variable {K K' : Nat} {x : Rf} {m : Dk}
theorem G2.new (y : Int) : G2 0 (Dk.new y) (Rf.new y) := ⟨Gl.new y, DkOk.new y, RfOk.new y, NmOk.new y⟩
theorem G2.mono (h : G2 K m x) (hK : K ≤ K') : G2 K' m x := ⟨h.gl, h.ok.mono hK, h.rk.of rfl hK, h.nm⟩
theorem G2.fit (h : G2 K m x) (hK : K ≤ 100000) : RfFit x where
 nums := by
  refine ⟨?_, ?_⟩
  ·rw [h.gl.cut]; exact h.ok.cut
  ·rw [h.gl.fail]; exact h.ok.fail
 files := by rw [h.gl.len]; exact Nat.le_trans h.ok.made hK
 names := by rw [h.gl.names]; exact Nat.le_trans h.ok.names hK
 kept := by rw [h.gl.kept]; have := h.ok.pend; omega
 pend := by rw [h.gl.pend]; have := h.ok.pend; omega
 idx := fun p hp => by
  rw [h.gl.len]
  rw [h.gl.names] at hp
  exact h.gl.lt p.2 (h.gl.valN.2 p.2 (List.mem_map.2 ⟨p, hp, rfl⟩))
 bytes := fun f hf => ⟨Nat.le_trans (h.rk.2 f hf).1 hK, (h.rk.2 f hf).2⟩
theorem G2.mosts (h : G2 K m x) : 0 ≤ x.most ∧ x.most ≤ 100000000000 := ⟨h.rk.1, by rw [h.gl.most]; have := h.gl.top; omega⟩
theorem G2.sum (h : G2 K m x) (hK : K ≤ 100000) : x.kept.length + x.pend.length ≤ 100000 := by
 rw [h.gl.kept, h.gl.pend]; exact Nat.le_trans h.ok.pend hK
theorem G2.create (h : G2 K m x) (hK : K ≤ 100000) (n : Nm) : (x.create n).2 = (m.create n).2 ∧ G2 (K + 1) (m.create n).1 (x.create n).1 :=
 ⟨(h.gl.create n).1, (h.gl.create n).2, h.ok.create n, h.rk.create n, h.nm.create n⟩
theorem G2.append (h : G2 K m x) (hK : K ≤ 100000) (n : Nm) (b : List UInt8) (hb : b.length ≤ 1000000000) : (x.append n b).2 = (m.append n b).2 ∧ G2 (K + b.length) (m.append n b).1 (x.append n b).1 :=
 ⟨(h.gl.append h.ok hK n b hb).1, (h.gl.append h.ok hK n b hb).2, h.ok.append n b, h.rk.append n b, h.nm.append n b⟩
theorem G2.sync (h : G2 K m x) (n : Nm) : (x.sync n).2 = (m.sync n).2 ∧ G2 K (m.sync n).1 (x.sync n).1 :=
 ⟨(h.gl.sync n).1, (h.gl.sync n).2, h.ok.sync n, h.rk.sync n, h.nm.sync n⟩
theorem G2.remove (h : G2 K m x) (hK : K ≤ 100000) (n : Nm) : (x.remove n).2 = (m.remove n).2 ∧ G2 (K + 1) (m.remove n).1 (x.remove n).1 :=
 ⟨(h.gl.remove h.ok hK n).1, (h.gl.remove h.ok hK n).2, h.ok.remove n, (h.rk.remove n).of rfl (Nat.le_succ _), h.nm.remove n⟩
theorem G2.syncDir (h : G2 K m x) : x.syncDir.2 = m.syncDir.2 ∧ G2 K m.syncDir.1 x.syncDir.1 :=
 ⟨h.gl.syncDir.1, h.gl.syncDir.2, h.ok.syncDir, h.rk.syncDir, h.nm.syncDir⟩
theorem G2.fails (h : G2 K m x) (y : Int) (hy : y ≤ 9223372036854775807) : G2 K (m.setFail y) (x.setFail y) :=
 ⟨h.gl.nums rfl rfl rfl rfl rfl rfl rfl rfl rfl rfl rfl rfl h.gl.did (by show (if 0 ≤ y then y else x.fail) = if 0 ≤ y then y else m.fail; rw [h.gl.fail]) h.gl.cut h.gl.down, h.ok.fails y hy, h.rk, h.nm⟩
theorem G2.cuts (h : G2 K m x) (y : Int) (hy : y ≤ 9223372036854775807) : G2 K (m.setCut y) (x.setCut y) :=
 ⟨h.gl.nums rfl rfl rfl rfl rfl rfl rfl rfl rfl rfl rfl rfl h.gl.did h.gl.fail (by show (if 0 ≤ y then y else x.cut) = if 0 ≤ y then y else m.cut; rw [h.gl.cut]) h.gl.down, h.ok.cuts y hy, h.rk, h.nm⟩
theorem G2.boot (h : G2 K m x) (hK : K ≤ 100000) (dirs : Int) (l : List Int) : G2 K (m.boot dirs l) (x.boot dirs l) := ⟨h.gl.boot h.ok hK dirs l, h.ok.boot dirs l, h.rk.boot dirs l, h.nm.boot dirs l⟩
theorem G2.flip (h : G2 K m x) (n : Nm) (y : Int) (z : Nat) : (x.flip n y z).2 = (m.flip n y z).2 ∧ G2 K (m.flip n y z).1 (x.flip n y z).1 := ⟨(h.gl.flip n y z).1, (h.gl.flip n y z).2, h.ok.flip n y z, h.rk.flip n y z, h.nm.flip n y z⟩
/-! What is told of both is the same. -/
theorem G2.sizes (h : G2 K m x) (n : Nm) : x.size n = m.size n := by
 unfold Rf.size Dk.size Rf.len
 rw [h.gl.names]
 cases hf : Dir.find n m.names with
 | none => rfl
 | some f => dsimp only; rw [(h.gl.file hf).1]
theorem G2.sized (h : G2 K m x) (n : Nm) : 0 ≤ (m.size n).1 ∧ (m.size n).1 ≤ K := by
 unfold Dk.size
 cases hf : Dir.find n m.names with
 | none => exact ⟨Int.le_refl _, Int.natCast_nonneg _⟩
 | some f =>
   have := (h.ok.bytes f (h.gl.file hf).2).1
   exact ⟨Int.natCast_nonneg _, by dsimp only; omega⟩
theorem G2.reads (h : G2 K m x) (n : Nm) (y k : Int) (hy : -9223372036854775808 ≤ y ∧ y ≤ 9223372036854775807) (hk : -9223372036854775808 ≤ k ∧ k ≤ 9223372036854775807) (hK : K ≤ 100000) : x.read n y k = m.read n y k := by
 unfold Rf.read Dk.read Rf.len
 rw [h.gl.names, h.gl.down]
 split
 ·rfl
 ·cases hf : Dir.find n m.names with
  | none => rfl
  | some f => dsimp only; rw [(h.gl.file hf).1]
end
def Two (B : Nat) (w0 w : World) (d r : Nat) (out : Nat → Prop) (m : Dk) (x : Rf) : Prop :=
 ∃ ro fv nv kv pv, RfAt w r ro x fv nv kv pv ∧ (∀ k, ro k → B ≤ k ∧ ¬ out k) ∧ DkIn B w0 w d (fun k => ro k ∨ out k) m
section
variable {B d r K : Nat} {w0 w w' : World} {out : Nat → Prop} {m m' : Dk} {x x' : Rf}
theorem Two.low (h : Two B w0 w d r out m x) : Below B w0 w := by obtain ⟨_, _, _, _, _, _, _, h⟩ := h; exact h.low
theorem Two.size (h : Two B w0 w d r out m x) : B ≤ w.heap.size := by obtain ⟨_, _, _, _, _, _, _, h⟩ := h; exact h.size
theorem Two.grow (h : Two B w0 w d r out m x) (hg : Grows w w') : Two B w0 w' d r out m x := by
 obtain ⟨ro, fv, nv, kv, pv, h1, h2, h3⟩ := h
 exact ⟨ro, fv, nv, kv, pv, h1.grow hg, h2, h3.grow hg⟩
theorem Two.less {out' : Nat → Prop} (h : Two B w0 w d r out m x) (ho : ∀ k, out' k → out k) : Two B w0 w d r out' m x := by
 obtain ⟨ro, fv, nv, kv, pv, h1, h2, h3⟩ := h
 exact ⟨ro, fv, nv, kv, pv, h1, fun k hk => ⟨(h2 k hk).1, fun e => (h2 k hk).2 (ho k e)⟩, h3.less fun k hk => hk.imp id (ho k)⟩
theorem Two.more (h : Two B w0 w d r out m x) (hg : Grows w w') : Two B w0 w' d r (fun k => out k ∨ (w.heap.size ≤ k ∧ k < w'.heap.size)) m x := by
 obtain ⟨ro, fv, nv, kv, pv, h1, h2, h3⟩ := h
 refine ⟨ro, fv, nv, kv, pv, h1.grow hg, fun k hk => ⟨(h2 k hk).1, fun e => ?_⟩, (h3.more hg).less fun k hk => by
  rcases hk with hk | hk | hk
  ·exact .inl (.inl hk)
  ·exact .inl (.inr hk)
  ·exact .inr hk⟩
 have := h1.lt k hk
 rcases e with e | e
 ·exact (h2 k hk).2 e
 ·omega
theorem Two.new {y : Int} {w1 w2 : World} (h : DkNew w d w1 (Dk.new y)) (hB : B ≤ w.heap.size) (hb : Below B w0 w) (h1 : RfAt w2 w1.heap.size (fun k => k = w1.heap.size) (Rf.new y) (.slice none 0 0) (.slice none 0 0) (.slice none 0 0) (.slice none 0 0)) (hg : Grows w1 w2) :
 Two B w0 w2 d w1.heap.size (fun _ => False) (Dk.new y) (Rf.new y) := by
 have h2 : DkIn B w0 w1 d (fun _ => False) (Dk.new y) := DkIn.new h hB hb fun k hk => hk.elim
 refine ⟨_, _, _, _, _, h1, fun k hk => ⟨by have := h2.size; have := hk; omega, id⟩, (h2.more hg).less fun k hk => ?_⟩
 rcases hk with hk | hk
 ·refine .inr ⟨by omega, ?_⟩
  rw [hk]; exact h1.top.lt
 ·exact hk.elim
theorem Two.dop {f : FuncId} {args : Array Value} {v : Ending} (h : Two B w0 w d r out m x) (hc : ∀ out', (∀ k, out k → out' k) → DkIn B w0 w d out' m → Calls Tryz.prog f args w fun e w' => e = v ∧ DkIn B w0 w' d out' m' ∧ Stays B out' w w') :
 Calls Tryz.prog f args w fun e w' => e = v ∧ Two B w0 w' d r out m' x ∧ Stays B out w w' := by
 obtain ⟨ro, fv, nv, kv, pv, h1, h2, h3⟩ := h
 refine (hc _ (fun k hk => .inr hk) h3).mono ?_
 rintro e w' ⟨rfl, h4, h5⟩
 exact ⟨rfl, ⟨ro, fv, nv, kv, pv, h1.stay (fun k hk => h5.same k (h1.lt k hk) fun e => e.2 (.inl hk)) h5.size, h2, h4⟩, h5.wider fun k _ hk => ⟨hk.1, fun e => hk.2 (.inr e)⟩⟩
theorem Two.rop {f : FuncId} {args : Array Value} {v : Ending} (h : Two B w0 w d r out m x) (hc : ∀ ro fv nv kv pv, RfAt w r ro x fv nv kv pv → (∀ k, ro k → B ≤ k ∧ ¬ out k) → Calls Tryz.prog f args w fun e w' => e = v ∧ RfTo w r ro w' x') :
 Calls Tryz.prog f args w fun e w' => e = v ∧ Two B w0 w' d r out m x' ∧ Stays B out w w' := by
 obtain ⟨ro, fv, nv, kv, pv, h1, h2, own, G, k1, k2, k3, k4, k5, k6⟩ := h
 refine (hc ro fv nv kv pv h1 h2).mono ?_
 rintro e w' ⟨rfl, ro', fv', nv', kv', pv', g1, g2, g3⟩
 have hs : Stays B out w w' := g2.wider fun k _ hk => h2 k hk
 have hdl := k1.top.lt
 refine ⟨rfl, ⟨ro', fv', nv', kv', pv', g1, fun k hk => ?_, own, G, k1.spare g2 fun k hk e => ?_, k2, k3, k4.trans (g2.below k5 fun k hk e => by have := (h2 k e).1; omega), Nat.le_trans k5 g2.size, fun k hk => ?_⟩, hs⟩
 ·rcases g3 k hk with e | e
  ·exact h2 k e
  ·exact ⟨Nat.le_trans k5 e, fun ho => by have := (k6 k (.inr ho)).1; omega⟩
 ·have := k6 k (.inl e)
  rcases hk with hk | hk
  ·exact this.2.1 hk
  ·exact this.2.2 hk
 ·rcases hk with hk | hk
  ·refine ⟨g1.lt k hk, ?_⟩
   rcases g3 k hk with e | e
   ·exact (k6 k (.inl e)).2
   ·exact ⟨fun e2 => by omega, fun e2 => by have := k1.rest.lt k e2; omega⟩
  ·have := k6 k (.inr hk)
   exact ⟨Nat.lt_of_lt_of_le this.1 g2.size, this.2⟩
theorem Two.dk (h : Two B w0 w d r out m x) : ∃ out', DkIn B w0 w d out' m := by obtain ⟨_, _, _, _, _, _, _, h⟩ := h; exact ⟨_, h⟩
theorem Two.rf (h : Two B w0 w d r out m x) : ∃ ro fv nv kv pv, RfAt w r ro x fv nv kv pv := by obtain ⟨ro, fv, nv, kv, pv, h, _⟩ := h; exact ⟨ro, fv, nv, kv, pv, h⟩
end
end Go.Proofs.YtlldcogkcjnejaaGreat
namespace Go.Proofs.YtlldcogkcjnejaaGreat
open Go.ChangeShapes Go.WideShapes Go.ChangeAt Go.RowKit
def slV (h : Option Addr × Nat × Nat) : Value := .slice h.1 h.2.1 h.2.2
structure Lists (w : World) (A : Option Addr) (n c : Nat) (ls : List (List UInt8)) : Prop where
 len : ls.length = n
 cap : n ≤ c
 bare : A = none → c = 0
 rows : ∃ hs : List (Option Addr × Nat × Nat), Row w w.heap.size A n (hs.map slV) ∧ ∀ (i : Nat) (h : Option Addr × Nat × Nat) (l : List UInt8), hs[i]? = some h → ls[i]? = some l → Sl w h.1 h.2.1 h.2.2 l
section
variable {H : Type} {enc : TypeId × Value → H} {P : Program} {W : World} {base : Nat} {r : Reach}
end
end Go.Proofs.YtlldcogkcjnejaaGreat
namespace Go.Proofs.YtlldcogkcjnejaaGreat
open Go.ChangeShapes Go.WideShapes Go.ChangeAt Go.RowKit
theorem Zdy {H : Type} {P : Program} {e : TypeId} {x : Nat} {d : DataW H} : ∀ {l : List (DataW H)}, d ∈ l → x ∈ d.weights P e → x ∈ DataW.weightsAll P e l
 | _ :: _, h, hx => by
   unfold DataW.weightsAll
   rcases List.mem_cons.1 h with rfl | h
   ·exact List.mem_append_left _ hx
   ·exact List.mem_append_right _ (Zdy h hx)
section
variable {H : Type} {enc : TypeId × Value → H} {P : Program} {W : World} {base : Nat} {r : Reach}
end
end Go.Proofs.YtlldcogkcjnejaaGreat
namespace Go.Proofs.YtlldcogkcjnejaaGreat
open Go.ChangeShapes Go.WideShapes Go.ChangeAt Go.RowKit
structure O8 where
 what : Int
 name : List UInt8
 to : List UInt8
 b : List UInt8
 n : Int
 bytes : List Int
 bits : Int
structure P8 where
 BA : Option Addr
 bn : Nat
 bc : Nat
 IA : Option Addr
 im : Nat
 ic : Nat
instance : Inhabited O8 := ⟨⟨0, [], [], [], 0, [], 0⟩⟩
instance : Inhabited P8 := ⟨⟨none, 0, 0, none, 0, 0⟩⟩
def o8V (o : O8) (p : P8) : List Value := [.int .i64 o.what, .string ⟨o.name.toArray⟩, .string ⟨o.to.toArray⟩, .slice p.BA p.bn p.bc, .int .i64 o.n, .slice p.IA p.im p.ic, .int .u32 o.bits]
structure O8At (w : World) (o : O8) (p : P8) : Prop where
 what : -9223372036854775808 ≤ o.what ∧ o.what ≤ 9223372036854775807
 name : o.name.length ≤ 9223372036854775807
 to : o.to.length ≤ 9223372036854775807
 b : Sl w p.BA p.bn p.bc o.b
 n : -9223372036854775808 ≤ o.n ∧ o.n ≤ 9223372036854775807
 bytes : Ints w p.IA p.im p.ic o.bytes
 each : ∀ x ∈ o.bytes, -9223372036854775808 ≤ x ∧ x ≤ 9223372036854775807
 bits : 0 ≤ o.bits ∧ o.bits ≤ 4294967295
 small : o.name.length ≤ 140737488351232 ∧ o.to.length ≤ 140737488351232 ∧ o.b.length ≤ 140737488351232 ∧ o.bytes.length ≤ 140737488351232
structure Ops8 (w : World) (A : Option Addr) (n c : Nat) (os : List O8) : Prop where
 len : os.length = n
 cap : n ≤ c
 top : n ≤ 140737488351232
 spot : ∀ i, i < n → ∃ (ad : Addr) (o : O8) (p : P8), A = some ad ∧ ad.block < w.heap.size ∧ os[i]? = some o ∧ O8At w o p ∧ ∀ k, k < 7 → w.cell? ((ad.add (i * 7)).add k) = (o8V o p)[k]?
theorem Ints.block {W : World} {A : Option Addr} {n c : Nat} {xs : List Int} (h : Ints W A n c xs) : ∀ ad, A = some ad → xs ≠ [] → ad.block < W.heap.size := by
 intro ad hA hne
 have hl := h.len
 have hpos : 0 < n := by
  rcases Nat.eq_zero_or_pos n with h0 | h0
  ·exact absurd (List.eq_nil_of_length_eq_zero (by omega)) hne
  ·exact h0
 obtain ⟨ad', x, hA', _, _, hb⟩ := h.get hpos
 rw [hA] at hA'
 injection hA' with hA'
 rw [hA']
 exact hb
section
variable {H : Type} {enc : TypeId × Value → H} {W : World} {base : Nat} {r : Reach}
end
end Go.Proofs.YtlldcogkcjnejaaGreat
namespace Go.Proofs.YtlldcogkcjnejaaGreat
open Go.ChangeShapes Go.WideShapes Go.ChangeAt Go.RowKit
theorem wadd (a b s : Nat) (h : a + b = s) (hs : s ≤ 9000000000000000000) : IntKind.i64.wrap ((a : Int) + (b : Int)) = (s : Int) := by
 rw [IntWalk.i64_in _ (by omega)]; omega
theorem Zdz (a : Addr) (k : Nat) : a.add (k + 1) = { block := a.block, off := a.off + (k + 1) } := Addr.add_succ' a k
theorem Zjo {k n : Nat} (h : k < n) : n - (intOf (Value.int IntKind.i64 ((k : Int) + 1))).toNat < n - (intOf (Value.int IntKind.i64 (k : Int))).toNat := by
 simp only [intOf]
 omega
end Go.Proofs.YtlldcogkcjnejaaGreat
namespace Go.Proofs.YtlldcogkcjnejaaGreat
open Go.RowKit
section
variable {B d r K : Nat} {w0 w w' : World} {out : Nat → Prop} {m m' : Dk} {x x' : Rf}
end
end Go.Proofs.YtlldcogkcjnejaaGreat
namespace Go.Proofs.YtlldcogkcjnejaaGreat
open Go.RowKit
def GotTo (w : World) (r : Option (List UInt8) × Int) (e : Ending) (w' : World) : Prop := ∃ A c, e = .returned (.tuple #[.slice A (r.1.getD []).length c, .int .i64 r.2]) ∧ Sl w' A (r.1.getD []).length c (r.1.getD []) ∧ Grows w w'
theorem Ze2.got {w w' : World} {r : Option (List UInt8) × Int} {e : Ending} (h : Ze2 w r e w') : GotTo w r e w' := by
 unfold Ze2 at h
 unfold GotTo
 cases hr : r.1 with
 | none =>
   rw [hr] at h
   obtain ⟨h1, rfl⟩ := h
   exact ⟨none, 0, h1, Sl.nil _, Grows.refl _⟩
 | some bs =>
   rw [hr] at h
   exact ⟨_, _, h.1, Sl.owned h.2.1, h.2.2⟩
theorem Za4 {m : Dk} {n : Nm} {x k : Int} (h : (m.read n x k).2 = 0) : ∃ bs, (m.read n x k).1 = some bs ∧ (bs.length : Int) = k := by
 by_cases hd : m.down = true
 ·have e : m.read n x k = (none, 82) := by unfold Dk.read; rw [if_pos hd]
  rw [e] at h; cases h
 cases hf : Dir.find n m.names with
 | none =>
   have e : m.read n x k = (none, 3) := by unfold Dk.read; rw [if_neg hd, hf]
   rw [e] at h; cases h
 | some f =>
   by_cases hc : x < 0 ∨ k < 0 ∨ ((m.files f).bytes.length : Int) < x ∨ ((m.files f).bytes.length : Int) - x < k
   ·have e : m.read n x k = (none, 1) := by unfold Dk.read; rw [if_neg hd, hf]; dsimp only; rw [if_pos hc]
    rw [e] at h; cases h
   ·have e : m.read n x k = (some (((m.files f).bytes.drop x.toNat).take k.toNat), 0) := by unfold Dk.read; rw [if_neg hd, hf]; dsimp only; rw [if_neg hc]
    rw [e]
    refine ⟨_, rfl, ?_⟩
    rw [List.length_take, List.length_drop]
    omega
section
variable {B d K : Nat} {w0 w : World} {out : Nat → Prop} {m : Dk}
theorem Zf2 (n : Nm) (x k : Int) (h : DkIn B w0 w d out m) (ok : DkOk K m) (hK : K ≤ 1000000000) (hn : n.length ≤ 1000000) (hx : -9223372036854775808 ≤ x ∧ x ≤ 9223372036854775807) (hk : -9223372036854775808 ≤ k ∧ k ≤ 9223372036854775807) {r : Option (List UInt8) × Int} (hr : m.read n x k = r) :
 Calls Tryz.prog 52 #[.pointer (some ⟨d, 0, none⟩), .string ⟨n.toArray⟩, .int .i64 x, .int .i64 k] w fun e w' => GotTo w r e w' := (Zq5 n x k h ok hK hn hx hk hr).mono fun e w' h => h.got
end
end Go.Proofs.YtlldcogkcjnejaaGreat
namespace Go.Proofs.YtlldcogkcjnejaaGreat
open Go.RowKit
theorem Zft.got {w w' : World} {r : Option (List UInt8) × Int} {e : Ending} (h : Zft w r e w') : GotTo w r e w' := by
 unfold Zft at h
 unfold GotTo
 cases hr : r.1 with
 | none =>
   rw [hr] at h
   obtain ⟨h1, h2⟩ := h
   exact ⟨none, 0, h1, Sl.nil _, h2⟩
 | some bs =>
   rw [hr] at h
   obtain ⟨A, c, h1, h2, h3⟩ := h
   exact ⟨A, c, h1, h2, h3⟩
section
variable {B d r K : Nat} {w0 w w' : World} {out : Nat → Prop} {m : Dk} {x : Rf}
/-! What is asked of either, told alike. -/
theorem Two.used (h : Two B w0 w d r out m x) : Calls Tryz.prog 11 #[.pointer (some ⟨d, 0, none⟩)] w fun e w' => e = .returned (.int .i64 m.used) ∧ w = w' := by
 obtain ⟨out', h1⟩ := h.dk
 exact Zq8 h1
theorem Two.usedR (h : Two B w0 w d r out m x) (hG : G2 K m x) (hK : K ≤ 100000) : Calls Tryz.prog 12 #[.pointer (some ⟨r, 0, none⟩)] w fun e w' => e = .returned (.int .i64 m.used) ∧ Grows w w' := by
 obtain ⟨ro, fv, nv, kv, pv, h1⟩ := h.rf
 rw [hG.gl.usedR]
 exact Zg1 w h1 (hG.fit hK)
theorem Two.done (h : Two B w0 w d r out m x) : Calls Tryz.prog 13 #[.pointer (some ⟨d, 0, none⟩)] w fun e w' => e = .returned (.int .i64 m.done) ∧ w = w' := by
 obtain ⟨out', h1⟩ := h.dk
 exact Zq7 h1
theorem Two.doneR (h : Two B w0 w d r out m x) (hG : G2 K m x) : Calls Tryz.prog 14 #[.pointer (some ⟨r, 0, none⟩)] w fun e w' => e = .returned (.int .i64 m.done) ∧ w = w' := by
 obtain ⟨ro, fv, nv, kv, pv, h1⟩ := h.rf
 rw [← hG.gl.did]
 exact Zl7 w h1
theorem Two.readsR (h : Two B w0 w d r out m x) (hG : G2 K m x) (hK : K ≤ 100000) {n : Nm} (y k : Int) (hy : -9223372036854775808 ≤ y ∧ y ≤ 9223372036854775807) (hk : -9223372036854775808 ≤ k ∧ k ≤ 9223372036854775807) {v : Option (List UInt8) × Int} (hv : m.read n y k = v) :
 Calls Tryz.prog 63 #[.pointer (some ⟨r, 0, none⟩), .string ⟨n.toArray⟩, .int .i64 y, .int .i64 k] w fun e w' => GotTo w v e w' := by
 obtain ⟨ro, fv, nv, kv, pv, h1⟩ := h.rf
 have := Zlv w n y k h1 (hG.fit hK) hy hk
 rw [hG.reads n y k hy hk hK, hv] at this
 exact this.mono fun e w' h => h.got
end
end Go.Proofs.YtlldcogkcjnejaaGreat
namespace Go.Proofs.YtlldcogkcjnejaaGreat
open Go.RowKit
theorem Sl.spareN {own : Nat → Prop} {w w' : World} {A : Option Addr} {n c : Nat} {bs : List UInt8} (h : Sl w A n c bs) (hs : Zc own w w') (ho : ∀ ad, A = some ad → ¬ own ad.block) : Sl w' A n c bs :=
 ⟨⟨by rw [List.length_map]; exact h.bytes.len, fun k v hv => by
   obtain ⟨ad, h1, h2, h3⟩ := Row.spot h.bytes k v hv
   refine ⟨ad, h1, Nat.lt_of_lt_of_le h2 hs.size, ?_⟩
   rw [World.cell?_of_block (hs.same (ad.add k).block (by rw [Z4]; exact h2) (by rw [Z4]; exact ho ad h1))]
   exact h3⟩, h.cap, h.bare⟩
theorem Zgs {w : World} {base r : Nat} {t : TypeId} {A : Option Addr} {k c n : Nat} {xs : List Value} (h : w.ownsRow base t 1 (.slice A k c) n xs) (hr : r < base) : ∀ ad, A = some ad → ad.block ≠ r := by
 intro ad e
 subst e
 have := (h.lt ad.block rfl).1
 omega
def RTo (w0 w : World) (d r : Nat) (out : Nat → Prop) (mm : Dk) (K : Nat) (p : Dk × Int) (e : Ending) (w' : World) : Prop := e = .returned (.int .i64 p.2) ∧ (∃ x', Two w0.heap.size w0 w' d r out mm x' ∧ G2 K p.1 x') ∧ Stays w0.heap.size out w w'
section
variable {d r K : Nat} {w0 w w' : World} {out : Nat → Prop} {m mm : Dk} {x : Rf}
theorem Zqx (h : Two w0.heap.size w0 w d r out mm x) (hG : G2 K m x) (hK : K ≤ 100000) {n : Nm} {v : Int} {b : Bool} (hv : m.size n = (v, b)) : Calls Tryz.prog 40 #[.pointer (some ⟨r, 0, none⟩), .string ⟨n.toArray⟩] w fun e w' => e = .returned (.tuple #[.int .i64 v, .bool b]) ∧ Grows w w' := by
 obtain ⟨ro, fv, nv, kv, pv, h1⟩ := h.rf
 have := Zlw w n h1 (hG.fit hK)
 rw [hG.sizes, hv] at this
 exact this
theorem Zgt (h : Two w0.heap.size w0 w d r out mm x) (hG : G2 K m x) (hK : K ≤ 100000) (n : Nm) : Calls Tryz.prog 56 #[.pointer (some ⟨r, 0, none⟩), .string ⟨n.toArray⟩] w (RTo w0 w d r out mm (K + 1) (m.create n)) := by
 have hg := hG.create hK n
 refine (h.rop (v := .returned (.int .i64 (m.create n).2)) (x' := (x.create n).1) fun ro fv nv kv pv k1 k2 => (Zid _ n k1 (hG.fit hK)).mono fun e w' hh => ⟨by rw [hh.1, hg.1], hh.2⟩).mono ?_
 rintro e w' ⟨rfl, ht, hs⟩
 exact ⟨rfl, ⟨_, ht, hg.2⟩, hs⟩
theorem Zln (h : Two w0.heap.size w0 w d r out mm x) (hG : G2 K m x) (hK : K ≤ 100000) (n : Nm) : Calls Tryz.prog 60 #[.pointer (some ⟨r, 0, none⟩), .string ⟨n.toArray⟩] w (RTo w0 w d r out mm (K + 1) (m.remove n)) := by
 have hg := hG.remove hK n
 refine (h.rop (v := .returned (.int .i64 (m.remove n).2)) (x' := (x.remove n).1) fun ro fv nv kv pv k1 k2 => (Zie _ n k1 (hG.fit hK)).mono fun e w' hh => ⟨by rw [hh.1, hg.1], hh.2⟩).mono ?_
 rintro e w' ⟨rfl, ht, hs⟩
 exact ⟨rfl, ⟨_, ht, hg.2⟩, hs⟩
theorem Zgu (h : Two w0.heap.size w0 w d r out mm x) (hG : G2 K m x) (hK : K ≤ 100000) (n : Nm) {A : Option Addr} {k c : Nat} {b : List UInt8} (hb : Sl w A k c b) (hA : ∀ ad, A = some ad → ad.block ≠ r) (hk : k ≤ 100000) : Calls Tryz.prog 57 #[.pointer (some ⟨r, 0, none⟩), .string ⟨n.toArray⟩, .slice A k c] w (RTo w0 w d r out mm (K + b.length) (m.append n b)) := by
 have hg := hG.append hK n b (by have := hb.len; omega)
 refine (h.rop (v := .returned (.int .i64 (m.append n b).2)) (x' := (x.append n b).1) fun ro fv nv kv pv k1 k2 => (Zic _ n b (fun u1 u2 u3 g1 g2 g3 => ((hb.grow g1).spareN g2 hA).grow g3) hk k1 (hG.fit hK) hG.mosts).mono fun e w' hh => ⟨by rw [hh.1, hg.1], hh.2⟩).mono ?_
 rintro e w' ⟨rfl, ht, hs⟩
 exact ⟨rfl, ⟨_, ht, hg.2⟩, hs⟩
end
end Go.Proofs.YtlldcogkcjnejaaGreat
namespace Go.Proofs.YtlldcogkcjnejaaGreat
def digs (n : Nat) : Nat → List UInt8
 | 0 => []
 | i + 1 => UInt8.ofNat (48 + n / 10 ^ i % 10) :: digs n i
theorem Yk (n : Nat) : ∀ i, (digs n i).length = i
 | 0 => rfl
 | i + 1 => by simp [digs, Yk n i]
def ofP (k n : Int) : List UInt8 :=
 if n < 0 ∨ n > 99999999 then [] else if k = 1 then 115 :: digs n.toNat 8 else if k = 2 then 104 :: digs n.toNat 8 else if k = 3 ∧ n = 0 then [109] else if k = 4 ∧ n = 0 then [116] else []
def val (acc : Nat) (r : List UInt8) : Nat := r.foldl (fun a c => 10 * a + (c.toNat - 48)) acc
theorem Ziq (x : Nat) (h : x < 10) : (UInt8.ofNat (48 + x)).toNat = 48 + x := by
 simp [UInt8.toNat_ofNat']
 omega
end Go.Proofs.YtlldcogkcjnejaaGreat
