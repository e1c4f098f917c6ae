/-
  Two directories that a law has made, apart from each other and from others that the law needs.
-/
import Derived.Test.YtadgbobemmfjoaaKsGreat
namespace Go.Proofs.Ytadgbobemmfjoaa
open Go.RowKit
set_option linter.unusedVariables false
set_option linter.unusedSimpArgs false

def KTwo (B : Nat) (w0 w : World) (a b : Nat) (out : Nat → Prop) (La Lb : List Pl) : Prop :=
  ∃ oa ob, DirIn w a oa La ∧ DirIn w b ob Lb ∧ (∀ k, (oa k ∨ k = a) ∨ (ob k ∨ k = b) → B ≤ k) ∧ (∀ k, (oa k ∨ k = a) → ¬ (ob k ∨ k = b)) ∧ Below B w0 w ∧ B ≤ w.heap.size ∧ ∀ k, out k → k < w.heap.size ∧ ¬ (oa k ∨ k = a) ∧ ¬ (ob k ∨ k = b)
section
variable {B a b : Nat} {w0 w w' : World} {out : Nat → Prop} {La Lb : List Pl}
theorem KTwo.symm (h : KTwo B w0 w a b out La Lb) : KTwo B w0 w b a out Lb La := by
  obtain ⟨oa, ob, h1, h2, h3, h4, h5, h6, h7⟩ := h
  exact ⟨ob, oa, h2, h1, fun k hk => h3 k hk.symm, fun k hk e => h4 k e hk, h5, h6, fun k hk => ⟨(h7 k hk).1, (h7 k hk).2.2, (h7 k hk).2.1⟩⟩
theorem KTwo.fst (h : KTwo B w0 w a b out La Lb) : KsIn B w0 w a out La := by
  obtain ⟨oa, ob, h1, h2, h3, h4, h5, h6, h7⟩ := h
  exact ⟨oa, h1, h3 a (.inl (.inr rfl)), fun k hk => h3 k (.inl (.inl hk)), h5, h6, fun k hk => ⟨(h7 k hk).1, fun e => (h7 k hk).2.1 (.inr e), fun e => (h7 k hk).2.1 (.inl e)⟩⟩
theorem KTwo.snd (h : KTwo B w0 w a b out La Lb) : KsIn B w0 w b out Lb := h.symm.fst
theorem KTwo.low (h : KTwo B w0 w a b out La Lb) : Below B w0 w := h.fst.low
theorem KTwo.grow (h : KTwo B w0 w a b out La Lb) (hg : Grows w w') : KTwo B w0 w' a b out La Lb := by
  obtain ⟨oa, ob, h1, h2, h3, h4, h5, h6, h7⟩ := h
  exact ⟨oa, ob, h1.grow hg, h2.grow hg, h3, h4, h5.trans (Below.mono hg h6), Nat.le_trans h6 hg.size, fun k hk => ⟨Nat.lt_of_lt_of_le (h7 k hk).1 hg.size, (h7 k hk).2⟩⟩
theorem KTwo.more (h : KTwo B w0 w a b out La Lb) (hg : Grows w w') : KTwo B w0 w' a b (fun k => out k ∨ (w.heap.size ≤ k ∧ k < w'.heap.size)) La Lb := by
  obtain ⟨oa, ob, h1, h2, h3, h4, h5, h6, h7⟩ := h
  refine ⟨oa, ob, h1.grow hg, h2.grow hg, h3, h4, h5.trans (Below.mono hg h6), Nat.le_trans h6 hg.size, ?_⟩
  have la := h1.lt
  have lb := h2.lt
  rintro k (hk | hk)
  · exact ⟨Nat.lt_of_lt_of_le (h7 k hk).1 hg.size, (h7 k hk).2⟩
  · exact ⟨hk.2, fun e => e.elim (fun e => by have := la.2 k e; omega) fun e => by omega, fun e => e.elim (fun e => by have := lb.2 k e; omega) fun e => by omega⟩
theorem KTwo.less {out' : Nat → Prop} (h : KTwo B w0 w a b out La Lb) (ho : ∀ k, out' k → out k) : KTwo B w0 w a b out' La Lb := by
  obtain ⟨oa, ob, h1, h2, h3, h4, h5, h6, h7⟩ := h
  exact ⟨oa, ob, h1, h2, h3, h4, h5, h6, fun k hk => h7 k (ho k hk)⟩
theorem KTwo.to {f : FuncId} {args : Array Value} {v : Value} {L' : List Pl} (h : KTwo B w0 w a b out La Lb) (hc : ∀ own, DirIn w a own La → Calls Try.prog f args w fun e w' => e = .returned v ∧ DirTo w a own L' w') :
    Calls Try.prog f args w fun e w' => e = .returned v ∧ KTwo B w0 w' a b out L' Lb ∧ KStays B out w w' := by
  obtain ⟨oa, ob, h1, h2, h3, h4, h5, h6, h7⟩ := h
  have la := h1.lt
  have lb := h2.lt
  refine (hc oa h1).mono ?_
  rintro e w' ⟨rfl, own', k1, k2, k3⟩
  have k3' : KStays B out w w' := k3.wider fun k _ hk => ⟨h3 k (.inl hk), fun ho => (h7 k ho).2.1 hk⟩
  have k1l := k1.lt
  refine ⟨rfl, ⟨own', ob, k1, h2.off k3 fun k hk e => h4 k e hk, ?_, ?_, h5.trans (k3'.below h6 fun k hk e => by have := e.1; omega), Nat.le_trans h6 k3'.size, ?_⟩, k3'⟩
  · rintro k (hk | hk)
    · rcases hk with hk | hk
      · exact (k2 k hk).elim (fun h => h3 k (.inl (.inl h))) fun h => Nat.le_trans h6 h
      · exact h3 k (.inl (.inr hk))
    · exact h3 k (.inr hk)
  · intro k hk e
    have hkb : k < w.heap.size := e.elim (lb.2 k) fun e => by omega
    rcases hk with hk | hk
    · rcases k2 k hk with h | h
      · exact h4 k (.inl h) e
      · omega
    · exact h4 k (.inr hk) e
  · intro k hk
    have h8 := h7 k hk
    refine ⟨Nat.lt_of_lt_of_le h8.1 k3.size, fun e => ?_, h8.2.2⟩
    rcases e with e | e
    · rcases k2 k e with h | h
      · exact h8.2.1 (.inl h)
      · omega
    · exact h8.2.1 (.inr e)
theorem KsIn.second (h : KsIn B w0 w a out La) : Calls Try.prog 10 #[] w fun e w' => ∃ b, e = .returned (.pointer (some ⟨b, 0, none⟩)) ∧ KTwo B w0 w' a b out La [] ∧ Grows w w' := by
  obtain ⟨oa, h1, h2, h3, h4, h5, h6⟩ := h
  have la := h1.lt
  refine (knew_any w).mono ?_
  rintro e w' ⟨b, ob, rfl, k1, k2, k3, k4⟩
  refine ⟨b, rfl, ⟨oa, ob, h1.grow k4, k1, ?_, ?_, h4.trans (Below.mono k4 h5), Nat.le_trans h5 k4.size, ?_⟩, k4⟩
  · rintro k ((hk | hk) | (hk | hk))
    · exact h3 k hk
    · omega
    · have := k3 k hk; omega
    · omega
  · intro k hk e
    have hka : k < w.heap.size := hk.elim (la.2 k) fun e => by omega
    rcases e with e | e
    · have := k3 k e; omega
    · omega
  · intro k hk
    have h8 := h6 k hk
    refine ⟨Nat.lt_of_lt_of_le h8.1 k4.size, fun e => e.elim h8.2.2 h8.2.1, fun e => ?_⟩
    rcases e with e | e
    · have := k3 k e; omega
    · omega
theorem put_two (p : Pl) (h : KTwo B w0 w a b out La Lb) (hk : p.key.length ≤ 1000000000) (hn : La.length < 400000) {x : Option Pl} (hx : getL p.key La = x) {L' : List Pl} (hL : kputL p La = L') :
    Calls Try.prog 20 #[.pointer (some ⟨a, 0, none⟩), plV p] w fun e w' => e = .returned (plTo x) ∧ KTwo B w0 w' a b out L' Lb ∧ KStays B out w w' := by
  subst hx hL
  exact h.to fun own ha => kput_any p hk w ha hn
theorem del_two (key : List UInt8) (h : KTwo B w0 w a b out La Lb) (hk : key.length ≤ 1000000000) (hn : La.length < 400000) {x : Option Pl} (hx : getL key La = x) {L' : List Pl} (hL : delL key La = L') :
    Calls Try.prog 13 #[.pointer (some ⟨a, 0, none⟩), .string ⟨key.toArray⟩] w fun e w' => e = .returned (plTo x) ∧ KTwo B w0 w' a b out L' Lb ∧ KStays B out w w' := by
  subst hx hL
  exact h.to fun own ha => kdel_any key hk w ha hn
end
def rowFactK (n : Nat) (l : Ks) : Fact Grows := ⟨Option Addr × Nat, (none, 0), fun q => .slice q.1 n q.2, fun q w => Row w w.heap.size q.1 n (l.map kS), fun _ _ _ h g => g.row h⟩
section
variable {P : Program} {ops : Array Oper} {W : World} {Q : Act → World → Prop} {o : Oper} {rest : List Oper} {fs : List (Fact Grows)} {ks : Known} {a : Act}
theorem f_callK {F : Fact Grows} (f : FuncId) (args : Array Value) (hw : Region.wanted o (yielded ops a.tmps) = true) (h1 : ∀ w, Grows W w → (execOp a.eval o).run P w = .ok (.enter f args) w)
    (hc : ∀ w, Grows W w → Calls P f args w fun e w' => Grows w w' ∧ ∃ x, e = .returned (F.val x) ∧ F.R x w') (h2 : ∀ x, wpF P ops Grows W Q rest fs ((o.dst, F.R x) :: ks) (a.put o.dst (F.val x))) : wpF P ops Grows W Q (o :: rest) (F :: fs) ks a := by
  unfold wpF fStep
  rw [if_pos hw]
  refine ⟨fun w hW hk => ?_, h2⟩
  unfold gives
  rw [h1 w hW]
  exact hc w hW
end
end Go.Proofs.Ytadgbobemmfjoaa
