/-
  The steps of a walk with facts: a value that is known ahead; a call whose answer is known; a call that hands back a slice of bytes that are known, wherever it lies; an operation that is not wanted.
-/
import Derived.Test.YtnnkioekjobbmaaMark
namespace Go.Proofs.Ytnnkioekjobbmaa
open Go.RowKit

def valFact (v : Value) : Fact Grows := ⟨Unit, (), fun _ => v, fun _ _ => True, fun _ _ _ _ _ => trivial⟩
/-- A slice of bytes, wherever it lies. -/
def slFact (bs : List UInt8) : Fact Grows := ⟨Option Addr × Nat, (none, 0), fun p => .slice p.1 bs.length p.2, fun p w => Sl w p.1 bs.length p.2 bs, fun _ _ _ h g => Sl.grow g h⟩

theorem Known.get {ks : Known} {ls : List Tmp} {w : World} (h : ks.for ls w) (i : Nat) {d : Tmp} {R : World → Prop} (hi : ks[i]? = some (some d, R)) (hd : ls.contains d = true) : R w :=
  h _ (List.mem_of_getElem? hi) ⟨d, rfl, by simpa using hd⟩

section
variable {P : Program} {ops : Array Oper} {W : World} {Q : Act → World → Prop} {o : Oper} {rest : List Oper} {fs : List (Fact Grows)} {ks : Known} {a : Act}

theorem wpF_more {E : World → World → Prop} : ∀ (l : List Oper) (fs : List (Fact E)) (ks ks' : Known) (a : Act), (∀ k ∈ ks, k ∈ ks') → wpF P ops E W Q l fs ks a → wpF P ops E W Q l fs ks' a
  | [], _, _, _, _, hk, h => fun w hw ha => h w hw fun k hk' => ha k (hk k hk')
  | _ :: _, [], _, _, _, _, h => h.elim
  | o :: l, F :: fs, ks, ks', a, hk, h => by
    unfold wpF fStep at *
    split
    · rename_i hw
      simp only [hw, if_true] at h
      refine ⟨fun w hw' hf => h.1 w hw' fun k hk' => hf k (hk k hk'), fun x => wpF_more l fs _ _ _ (fun k hk' => ?_) (h.2 x)⟩
      rcases List.mem_cons.1 hk' with rfl | hk'
      · exact List.mem_cons_self
      · exact List.mem_cons_of_mem _ (hk k hk')
    · rename_i hw
      simp only [hw] at h
      exact wpF_more l fs ks ks' _ hk h

theorem f_val (v : Value) (hw : Region.wanted o (yielded ops a.tmps) = true) (h1 : ∀ w, Grows W w → (execOp a.eval o).run P w = .ok (.value v) w) (h2 : wpF P ops Grows W Q rest fs ks (a.put o.dst v)) :
    wpF P ops Grows W Q (o :: rest) (valFact v :: fs) ks a := by
  unfold wpF fStep
  rw [if_pos hw]
  refine ⟨fun w hW _ => ?_, fun x => wpF_more _ _ ks _ _ (fun k hk => List.mem_cons_of_mem _ hk) h2⟩
  unfold gives
  rw [h1 w hW]
  exact ⟨Grows.refl w, (), rfl, trivial⟩
/-- .. a value that hangs on what is known of the slots. -/
theorem f_known (v : Value) (hw : Region.wanted o (yielded ops a.tmps) = true) (h1 : ∀ w, Grows W w → ks.for (o.looksAt ops) w → (execOp a.eval o).run P w = .ok (.value v) w) (h2 : wpF P ops Grows W Q rest fs ks (a.put o.dst v)) :
    wpF P ops Grows W Q (o :: rest) (valFact v :: fs) ks a := by
  unfold wpF fStep
  rw [if_pos hw]
  refine ⟨fun w hW hk => ?_, fun x => wpF_more _ _ ks _ _ (fun k hk => List.mem_cons_of_mem _ hk) h2⟩
  unfold gives
  rw [h1 w hW hk]
  exact ⟨Grows.refl w, (), rfl, trivial⟩
theorem f_call (f : FuncId) (args : Array Value) (v : Value) (hw : Region.wanted o (yielded ops a.tmps) = true) (h1 : ∀ w, Grows W w → (execOp a.eval o).run P w = .ok (.enter f args) w)
    (hc : ∀ w, Grows W w → ks.for (o.looksAt ops) w → Calls P f args w fun e w' => e = .returned v ∧ Grows w w') (h2 : wpF P ops Grows W Q rest fs ks (a.put o.dst v)) :
    wpF P ops Grows W Q (o :: rest) (valFact v :: fs) ks a := by
  unfold wpF fStep
  rw [if_pos hw]
  refine ⟨fun w hW hk => ?_, fun x => wpF_more _ _ ks _ _ (fun k hk => List.mem_cons_of_mem _ hk) h2⟩
  unfold gives
  rw [h1 w hW]
  exact (hc w hW hk).mono fun e w' ⟨he, hg⟩ => ⟨hg, (), he, trivial⟩
/-- A call that hands back a slice of bytes. -/
theorem f_new (bs : List UInt8) (f : FuncId) (args : Array Value) (hw : Region.wanted o (yielded ops a.tmps) = true) (h1 : ∀ w, Grows W w → (execOp a.eval o).run P w = .ok (.enter f args) w)
    (hc : ∀ w, Grows W w → ks.for (o.looksAt ops) w → Calls P f args w fun e w' => ∃ A m c, e = .returned (.slice A m c) ∧ Sl w' A m c bs ∧ Below w.heap.size w w')
    (h2 : ∀ A c, wpF P ops Grows W Q rest fs ((o.dst, fun w => Sl w A bs.length c bs) :: ks) (a.put o.dst (.slice A bs.length c))) :
    wpF P ops Grows W Q (o :: rest) (slFact bs :: fs) ks a := by
  unfold wpF fStep
  rw [if_pos hw]
  refine ⟨fun w hW hk => ?_, fun x => h2 x.1 x.2⟩
  unfold gives
  rw [h1 w hW]
  refine (hc w hW hk).mono fun e w' ⟨A, m, c, he, hs, hb⟩ => ⟨hb, (A, c), ?_, ?_⟩
  · rw [he, ← hs.len]; rfl
  · have := hs.len; subst this; exact hs
theorem f_skip {F : Fact Grows} (hw : Region.wanted o (yielded ops a.tmps) = false) (h2 : wpF P ops Grows W Q rest fs ks (a.put o.dst undef)) : wpF P ops Grows W Q (o :: rest) (F :: fs) ks a := by
  unfold wpF fStep
  rw [if_neg (by simp [hw])]
  exact h2
end
theorem grows_drew (w : World) : Grows w { w with drawn := w.drawn + 1 } := ⟨rfl, rfl, rfl, Nat.le_refl _, fun _ _ => rfl⟩
end Go.Proofs.Ytnnkioekjobbmaa
